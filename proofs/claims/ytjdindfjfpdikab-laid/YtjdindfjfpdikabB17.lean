import Derived.Deep.DeepCutAuto
import Derived.Deep.RegionLaw
import Derived.Sort.LoopGhostIn
import Derived.Test.YtjdindfjfpdikabB07
import Derived.Test.YtjdindfjfpdikabB16
import Derived.Test.YtjdindfjfpdikabPre
set_option maxRecDepth 100000
set_option maxHeartbeats 8000000
namespace Go.Proofs.Ytjdindfjfpdikab
section
open Go.RowKit Go.Shelf
attribute [local go_sem] Oper.semAt_some
theorem opens_x (X:List Nat)(n:Nat)(hn:1≤n)(Bn Bf:Nat)(W0:World)(p q r:Option Addr)(ls cs la ca cf:Nat)(S:Nat→Int)(A:Nat→Ar)(F:Nat→Int)
  (hok:NetOk ls ls S la A) (hA:Arcs W0 q la A) (hF:Ints W0 r la F) (hBn:W0.heap[Bn]?=some (.cells #[.int .i64 ls,.slice p ls cs,.slice q la ca] 39)) (hBf:W0.heap[Bf]?=some (.cells #[.slice r la cf] 22)) (nA:∀ a,q=some a→a.block∉X) (nF:∀ a,r=some a→a.block∉X) (nBn:Bn∉X) (nBf:Bf∉X) (hX:∀ b∈X,b<W0.heap.size) :
  SeqStopsK Fence.wide n Try.prog 70 #[.pointer (some ⟨Bn,0,none⟩),.pointer (some ⟨Bf,0,none⟩)] (fun x:Op4 la A F ls=>encO x.1) (Kx X) (fun xs=>AllOpen la A F (xs.map (·.1))∧xs.map Op4.opn=opsR A F la) (fun xs=>xs.map Op4.opn <+: opsR A F la) (2*la) W0:=fun l J Jx W hW hJ _ hY h0=>by
 refine (opens1_x X n hn l Bn Bf W0 p q r ls cs la ca cf S A F hok hA hF hBn hBf nA nF nBn nBf hX (fun pre W=>∃ pre':List (Op4 la A F ls),pre'.map (·.1)=pre∧J pre' W) (fun pre W=>∃ pre':List (Op4 la A F ls),pre'.map (·.1)=pre∧Jx pre' W) W (Kx.of_below hW) ?_ ?_ ⟨[],rfl,h0⟩).mono ?_
 ·rintro pre W1 W2 row ⟨pre',e,h⟩ hg hr
  exact ⟨pre',e,hJ _ _ _ _ h hg hr⟩
 ·rintro pre x W1 ⟨pre',e,h⟩ hl hx
  obtain ⟨fn,tmps,assign,body,hy,hR⟩:=hY pre' ⟨x,hx⟩ W1 h (by rw [← e] at hl; simpa using hl)
  refine ⟨fn,tmps,assign,body,hy,hR.mono ?_⟩
  rintro e' W' (⟨h1,h2,h3⟩ | ⟨h1,h2⟩)
  ·exact Jr ⟨h1,⟨_,by rw [List.map_append,e]; rfl,h2⟩,h3⟩
  ·exact Js ⟨h1,_,by rw [List.map_append,e]; rfl,h2⟩
 ·rintro e' W' ⟨h1,h2⟩
  refine ⟨h1,?_⟩
  have hmp:∀ pre':List (Op4 la A F ls),pre'.map Op4.opn=((pre'.map (·.1)).map (·.1)).map toOpn:=fun pre'=>by
   rw [List.map_map,List.map_map]
   rfl
  rcases h2 with ⟨ys,h3,h5,pre',e,h4⟩ | ⟨pre,h5,pre',e,h4⟩
  ·exact Jr ⟨pre',⟨by show AllOpen la A F (pre'.map _); rw [e]; exact h3,by rw [hmp,e,h5]; rfl⟩,h4⟩
  ·exact Js ⟨pre',by show pre'.map Op4.opn <+: _; rw [hmp,e]; exact h5.map toOpn,h4⟩
theorem wpListIn_makeF {F:Fence}{n:Nat}{P:Program}(w:World){ops:Array Oper}{rest:List Oper}{o:Oper}{a:Act}{Q:Exit→Act→World→Prop}(hg:o.guard=none)(l c:Operand)(t:TypeId)(hop:o.op=Op.makeSlice t l c)
  (base:Nat) (e:TypeId) (i:TypeInfo) (z:Value) (size:Nat) (h1:P.underlying t=some (.slice e)) (h2:P.info? e=some i) (h3:i.zero=some z) (h4:i.size=size)
  (kl kc:IntKind) (L C:Int) (m:Nat) (hl:a.eval l=.int kl L) (hc:a.eval c=.int kc C) (hL:L=(m:Int)) (hC:C=(m:Int)) (b2:i.bytes*m≤281474976710656) (b3:m≤maxLen) (b4:base≤w.heap.size)
  (hK:∀ w',w'.ownsRow base e size (.slice (some ⟨w.heap.size,0,none⟩) m m) m (madeCells z.cells (m*size)).toList→w.grownBy w' none→wpListIn F n P ops Q rest (a.put o.dst (.slice (some ⟨w.heap.size,0,none⟩) m m)) w'):wpListIn F n P ops Q (o :: rest) a w:=by
 refine wpListIn_plain hg fun K hK'=>?_
 obtain ⟨w',hrun,r1,r2⟩:=run_make_full (P:=P) w base t e i z size h1 h2 h3 h4 kl kc m b2 b3 b4
 subst hL
 subst hC
 unfold Oper.wpIn
 refine ⟨?_,?_⟩
 ·simp [Oper.about,hop]
 ·rw [Oper.semAt_plain F _ _ (by rw [hop]; intro c hc'; cases hc')]
  simp [execOp,hop,hl,hc,hrun,Result.andThen]
  exact hK' _ _ (hK w' r1 r2)
structure CB (w:World)(net:Array Value)(ls bc bl bh gC gL:Nat)(C:Nat→Int)(L:Nat→Option Opn)(chp:Bool)(W:World):Prop where
 nb:W.heap[w.heap.size]?=some (.cells net 39)
 ra:Boxed W (w.heap.size+1) 95 (.slice none 0 0)
 rb:Boxed W (w.heap.size+1+1) 22 (.slice none 0 0)
 xc:Boxed W bc 22 (.slice (some ⟨gC,0,none⟩) ls ls)
 xl:Boxed W bl 95 (.slice (some ⟨gL,0,none⟩) ls ls)
 xh:Boxed W bh 4 (.bool chp)
 nC:Nums W gC ls C
 nL:LB W gL ls L
 base:w.heap.size≤bc∧w.heap.size≤bl∧w.heap.size≤bh∧w.heap.size≤gC∧w.heap.size≤gL
 below:Below w.heap.size w W
section
variable {w W W':World}{net:Array Value}{ls bc bl bh gC gL:Nat}{C:Nat→Int}{L:Nat→Option Opn}{chp:Bool}
theorem CB.move (h:CB w net ls bc bl bh gC gL C L chp W)(hm:∀ b,b<W.heap.size→(∃ cs t f,W.heap[b]?=some (.cells cs t f))→W'.heap[b]?=W.heap[b]?)(hb:Below w.heap.size w W'):CB w net ls bc bl bh gC gL C L chp W':=by
 have m:∀ {b:Nat} {cs:Array Value} {t:TypeId},W.heap[b]?=some (Obj.cells cs t)→W'.heap[b]?=some (Obj.cells cs t):=fun {b cs t} e=>(hm b (Ja.1 e).1 ⟨_,_,_,e⟩).trans e
 obtain ⟨cur,e,hc⟩:=h.nL
 exact ⟨m h.nb,m h.ra,m h.rb,m h.xc,m h.xl,m h.xh,m h.nC,⟨cur,m e,hc⟩,h.base,hb⟩
theorem CB.keep (h:CB w net ls bc bl bh gC gL C L chp W)(hb:Below W.heap.size W W'):CB w net ls bc bl bh gC gL C L chp W':=h.move (fun b hl _=>hb.block b hl) (beyond h.below hb)
end
structure FinB (w Z:World)(ls gC:Nat)(C:Nat→Int)(W:World):Prop where
 ra:Boxed W (w.heap.size+1) 95 (.slice none 0 0)
 rb:Boxed W (w.heap.size+1+1) 22 (.slice (some ⟨gC,0,none⟩) ls ls)
 nC:Nums W gC ls C
 below:Below w.heap.size w W
 marks:∀ D:Nat,Z.heap[D]?=some (.deferred (some []))→W.heap[D]?=some (.deferred (some []))
section
variable {w Z W W':World}{net:Array Value}{ls bc bl bh gC gL:Nat}{C:Nat→Int}{L:Nat→Option Opn}{chp:Bool}
theorem far_set (W:World)(b i:Nat)(v:Value){k:Nat}(hk:k≠b):(W.setCell ⟨b,i,none⟩ v).heap[k]?=W.heap[k]?:=heap_setCell_other W _ k v hk
theorem box_set {W:World}{b:Nat}{t:TypeId}{v v':Value}(h:Boxed W b t v):Boxed (W.setCell ⟨b,0,none⟩ v') b t v':=by
 have:=heap_setCell (w:=W) (rb:=b) (arr:=#[v]) (e:=t) h 0 v'
 exact this
theorem CB.fin (h:CB w net ls bc bl bh gC gL C L chp W)(hd:∀ D:Nat,Z.heap[D]?=some (.deferred (some []))→W.heap[D]?=some (.deferred (some [])))(hW:W'=(W.setCell ⟨w.heap.size+1,0,none⟩ (.slice none 0 0)).setCell ⟨w.heap.size+1+1,0,none⟩ (.slice (some ⟨gC,0,none⟩) ls ls)∨W'=(W.setCell ⟨w.heap.size+1+1,0,none⟩ (.slice (some ⟨gC,0,none⟩) ls ls)).setCell ⟨w.heap.size+1,0,none⟩ (.slice none 0 0)):FinB w Z ls gC C W':=by
 have n1:gC≠w.heap.size+1:=fun e=>by
  have h1:=h.nC
  have h2:=h.ra
  unfold Nums at h1
  unfold Boxed at h2
  rw [e,h2] at h1
  simp at h1
 have n2:gC≠w.heap.size+1+1:=fun e=>by
  have h1:=h.nC
  have h2:=h.rb
  unfold Nums at h1
  unfold Boxed at h2
  rw [e,h2] at h1
  simp at h1
 have n3:∀ D:Nat,W.heap[D]?=some (.deferred (some []))→D≠w.heap.size+1∧D≠w.heap.size+1+1:=fun D hD=>by
  have h2:=h.ra
  have h3:=h.rb
  unfold Boxed at h2 h3
  constructor
  ·intro e
   rw [e,h2] at hD
   cases hD
  ·intro e
   rw [e,h3] at hD
   cases hD
 have hb:∀ {W:World} {i:Nat} {v:Value},Below w.heap.size w W→w.heap.size≤i→Below w.heap.size w (W.setCell ⟨i,0,none⟩ v):=fun hB hi=>hB.setCell (p:=⟨_,0,none⟩) hi _
 rcases hW with rfl | rfl
 ·refine ⟨(far_set _ _ _ _ (by omega)).trans (box_set h.ra),box_set ((far_set _ _ _ _ (by omega)).trans h.rb),(h.nC.move (far_set _ _ _ _ n1)).move (far_set _ _ _ _ n2),hb (hb h.below (by omega)) (by omega),fun D hD=>?_⟩
  have:=n3 D (hd D hD)
  rw [far_set _ _ _ _ this.2,far_set _ _ _ _ this.1]
  exact hd D hD
 ·refine ⟨box_set ((far_set _ _ _ _ (by omega)).trans h.ra),(far_set _ _ _ _ (by omega)).trans (box_set h.rb),(h.nC.move (far_set _ _ _ _ n2)).move (far_set _ _ _ _ n1),hb (hb h.below (by omega)) (by omega),fun D hD=>?_⟩
  have:=n3 D (hd D hD)
  rw [far_set _ _ _ _ this.1,far_set _ _ _ _ this.2]
  exact hd D hD
end
structure CI (w:World)(net:Array Value)(ls bc bl bh gC gL:Nat)(la:Nat)(A:Nat→Ar)(F:Nat→Int)(Ds:List Nat)(B:Nat)(C0:Nat→Int)(L0:Nat→Option Opn)(pre:List (Op4 la A F ls))(C:Nat→Int)(L:Nat→Option Opn)(chp:Bool)(W:World):Prop where
 mem:CB w net ls bc bl bh gC gL C L chp W
 inv:CInv ls (IsOpn la A F) C L
 neg:∀ v,C v≤0
 marks:∀ D∈Ds,D<B∧w.heap.size≤D∧W.heap[D]?=some (.deferred (some []))
 size:B≤W.heap.size
 no:chp=false→C=C0∧∀ x∈pre,C x.opn.t≤C x.opn.f+x.opn.k
 yes:chp=true→sumC C ls<sumC C0 ls
 tr:RTr C0 L0 (pre.map Op4.opn) C L chp
structure CX (w:World)(la:Nat)(A:Nat→Ar)(F:Nat→Int)(Ds:List Nat)(B:Nat)(v:Value)(l:List Opn)(x:Nat)(W:World):Prop where
 ra:Boxed W (w.heap.size+1) 95 v
 rb:Boxed W (w.heap.size+1+1) 22 (.slice none 0 0)
 row:ORow w.heap.size W v l
 ne:l≠[]
 opn:∀ o∈l,IsOpn la A F o
 walk:WalkB x l x
 nod:(l.map Opn.t).Nodup
 sum:ksum l<0
 below:Below w.heap.size w W
 marks:∀ D∈Ds,D<B∧w.heap.size≤D∧W.heap[D]?=some (.deferred (some []))
section
variable {w W W':World}{net:Array Value}{ls bc bl bh gC gL la B:Nat}{A:Nat→Ar}{F:Nat→Int}{Ds:List Nat}{C0 C:Nat→Int}{L0 L:Nat→Option Opn}{chp:Bool}{pre:List (Op4 la A F ls)}{row:Option Nat}{v:Value}{l:List Opn}{x:Nat}
theorem CI.grown (h:CI w net ls bc bl bh gC gL la A F Ds B C0 L0 pre C L chp W)(hB:w.heap.size≤B)(hg:W.grownBy W' row)(hr:∀ r,row=some r→B≤r∧∃ o:Obj,W.heap[r]?=some o∧o.isCells=false):CI w net ls bc bl bh gC gL la A F Ds B C0 L0 pre C L chp W':=by
 refine ⟨h.mem.move (fun b hl ⟨cs,t,f,e⟩=>hg.block b hl (fun q=>?_)) (h.mem.below.grown hg h.mem.below.size (fun k e=>Nat.le_trans hB (hr k e).1)),h.inv,h.neg,fun D hD=>?_,Nat.le_trans h.size hg.size,h.no,h.yes,h.tr⟩
 ·obtain ⟨_,o,ho,hc⟩:=hr b q.symm
  rw [e] at ho
  cases ho
  cases hc
 ·obtain ⟨h1,h2,h3⟩:=h.marks D hD
  exact ⟨h1,h2,(hg.block D (Ja.1 h3).1 (fun q=>by have:=(hr D q.symm).1; omega)).trans h3⟩
theorem CX.grown (h:CX w la A F Ds B v l x W)(hB:w.heap.size≤B)(hg:W.grownBy W' row)(hr:∀ r,row=some r→B≤r∧∃ o:Obj,W.heap[r]?=some o∧o.isCells=false):CX w la A F Ds B v l x W':=by
 have mv:∀ {b:Nat} {cs:Array Value} {t:TypeId},W.heap[b]?=some (Obj.cells cs t)→W'.heap[b]?=some (Obj.cells cs t):=fun {b cs t} e=>(hg.block b (Ja.1 e).1 (fun q=>by
  obtain ⟨_,o,ho,hc⟩:=hr b q.symm
  rw [e] at ho
  cases ho
  cases hc)).trans e
 refine ⟨mv h.ra,mv h.rb,⟨h.row.1,?_⟩,h.ne,h.opn,h.walk,h.nod,h.sum,h.below.grown hg h.below.size (fun k e=>Nat.le_trans hB (hr k e).1),fun D hD=>?_⟩
 ·rcases h.row.2 with q | ⟨g,cap,cur,e,e0,hgc,q⟩
  ·exact Jr q
  ·exact Js ⟨g,cap,cur,e,e0,mv hgc,q⟩
 ·obtain ⟨h1,h2,h3⟩:=h.marks D hD
  exact ⟨h1,h2,(hg.block D (Ja.1 h3).1 (fun q=>by have:=(hr D q.symm).1; omega)).trans h3⟩
end
theorem none_saves {la ls:Nat}{A:Nat→Ar}{F:Nat→Int}{ys:List (Op4 la A F ls)}{C:Nat→Int}(hS:AllOpen la A F (ys.map (·.1)))(h:∀ x∈ys,C x.opn.t≤C x.opn.f+x.opn.k)(o:Opn)(ho:IsOpn la A F o):C o.t≤C o.f+o.k:=by
 obtain ⟨ha,h1 | h1⟩:=ho
 ·obtain ⟨h2,h3,h4,h5,h6⟩:=h1
  obtain ⟨y,hy,e⟩:=(hS o.a ha).1 h2
  obtain ⟨x,hx,rfl⟩:=List.mem_map.1 hy
  have h7:=h x hx
  have e1:x.opn.t=o.t:=by show x.1.1.2.1.toNat=_; rw [e,← h5]; exact Jn _
  have e2:x.opn.f=o.f:=by show x.1.1.1.toNat=_; rw [e,← h4]; exact Jn _
  have e3:x.opn.k=o.k:=by show x.1.1.2.2.1=_; rw [e,h6]
  rw [e1,e2,e3] at h7
  exact h7
 ·obtain ⟨h2,h3,h4,h5,h6⟩:=h1
  obtain ⟨y,hy,e⟩:=(hS o.a ha).2 h2
  obtain ⟨x,hx,rfl⟩:=List.mem_map.1 hy
  have h7:=h x hx
  have e1:x.opn.t=o.t:=by show x.1.1.2.1.toNat=_; rw [e,← h5]; exact Jn _
  have e2:x.opn.f=o.f:=by show x.1.1.1.toNat=_; rw [e,← h4]; exact Jn _
  have e3:x.opn.k=o.k:=by show x.1.1.2.2.1=_; rw [e,h6]
  rw [e1,e2,e3] at h7
  exact h7
structure S11 (bc bl Bx gC gL ls:Nat)(o:Opn)(W:World):Prop where
 e6:W.cell? ⟨bc,0,none⟩=some (.slice (some ⟨gC,0,none⟩) ls ls)
 e7:W.cell? ⟨bl,0,none⟩=some (.slice (some ⟨gL,0,none⟩) ls ls)
 x0:W.cell? ⟨Bx,0,none⟩=some (.int .i64 o.f)
 x1:W.cell? ⟨Bx,1,none⟩=some (.int .i64 o.t)
 x2:W.cell? ⟨Bx,2,none⟩=some (.int .i64 o.k)
 x3:W.cell? ⟨Bx,3,none⟩=some (.int .i64 o.a)
 x4:W.cell? ⟨Bx,4,none⟩=some (.int .i64 o.b)
theorem S11.set {bc bl Bx gC gL ls b i:Nat}{o:Opn}{W:World}{v:Value}(h:S11 bc bl Bx gC gL ls o W)(n1:bc≠b)(n2:bl≠b)(n3:Bx≠b):S11 bc bl Bx gC gL ls o (W.setCell ⟨b,i,none⟩ v):=by
 have mv:∀ {k j:Nat},k≠b→(W.setCell ⟨b,i,none⟩ v).cell? ⟨k,j,none⟩=W.cell? ⟨k,j,none⟩:=fun hk=>World.cell?_setCell_far W _ _ v (fun e=>hk e.symm)
 exact ⟨(mv n1).trans h.e6,(mv n2).trans h.e7,(mv n3).trans h.x0,(mv n3).trans h.x1,(mv n3).trans h.x2,(mv n3).trans h.x3,(mv n3).trans h.x4⟩
section
variable {w W:World}{net:Array Value}{ls bc bl bh gC gL:Nat}{C:Nat→Int}{L:Nat→Option Opn}{chp:Bool}
theorem CB.ne {b:Nat}{cs:Array Value}{t t':TypeId}{b':Nat}{cs':Array Value}(h:W.heap[b]?=some (Obj.cells cs t))(h':W.heap[b']?=some (Obj.cells cs' t'))(hne:t≠t'):b≠b':=fun e=>by
 rw [e,h'] at h
 simp at h
 exact hne h.2.symm
theorem CB.flag (h:CB w net ls bc bl bh gC gL C L chp W)(b:Bool):CB w net ls bc bl bh gC gL C L b (W.setCell ⟨bh,0,none⟩ (.bool b)):=by
 have mv:∀ {k:Nat} {cs:Array Value} {t:TypeId},W.heap[k]?=some (Obj.cells cs t)→t≠4→(W.setCell ⟨bh,0,none⟩ (.bool b)).heap[k]?=some (Obj.cells cs t):=fun e ht=>(far_set _ _ _ _ (CB.ne e h.xh ht)).trans e
 obtain ⟨cur,e,hc⟩:=h.nL
 exact ⟨mv h.nb (by decide),mv h.ra (by decide),mv h.rb (by decide),mv h.xc (by decide),mv h.xl (by decide),box_set h.xh,mv h.nC (by decide),⟨cur,mv e (by decide),hc⟩,h.base,h.below.setCell (p:=⟨bh,0,none⟩) h.base.2.2.1 _⟩
theorem CB.cost (h:CB w net ls bc bl bh gC gL C L chp W)(v:Nat)(x:Int):CB w net ls bc bl bh gC gL (updI C v x) L chp (W.setCell ⟨gC,v,none⟩ (.int .i64 x)):=by
 have mv:∀ {k:Nat} {cs:Array Value} {t:TypeId},W.heap[k]?=some (Obj.cells cs t)→t≠3→(W.setCell ⟨gC,v,none⟩ (.int .i64 x)).heap[k]?=some (Obj.cells cs t):=fun e ht=>(far_set _ _ _ _ (CB.ne e h.nC ht)).trans e
 obtain ⟨cur,e,hc⟩:=h.nL
 exact ⟨mv h.nb (by decide),mv h.ra (by decide),mv h.rb (by decide),mv h.xc (by decide),mv h.xl (by decide),mv h.xh (by decide),h.nC.set v x,⟨cur,mv e (by decide),hc⟩,h.base,h.below.setCell (p:=⟨gC,v,none⟩) h.base.2.2.2.1 _⟩
theorem CB.last (h:CB w net ls bc bl bh gC gL C L chp W){o:Opn}(ht:o.t<ls):CB w net ls bc bl bh gC gL C (updO L o.t o) chp (((((W.setCell ⟨gL,o.t*5,none⟩ (.int .i64 o.f)).setCell ⟨gL,o.t*5+1,none⟩ (.int .i64 o.t)).setCell ⟨gL,o.t*5+2,none⟩ (.int .i64 o.k)).setCell ⟨gL,o.t*5+3,none⟩ (.int .i64 o.a)).setCell ⟨gL,o.t*5+4,none⟩ (.int .i64 o.b)):=by
 obtain ⟨cur,e0,hc⟩:=h.nL
 have mv:∀ {k:Nat} {cs:Array Value} {t:TypeId},W.heap[k]?=some (Obj.cells cs t)→t≠99→(((((W.setCell ⟨gL,o.t*5,none⟩ (.int .i64 o.f)).setCell ⟨gL,o.t*5+1,none⟩ (.int .i64 o.t)).setCell ⟨gL,o.t*5+2,none⟩ (.int .i64 o.k)).setCell ⟨gL,o.t*5+3,none⟩ (.int .i64 o.a)).setCell ⟨gL,o.t*5+4,none⟩ (.int .i64 o.b)).heap[k]?=some (Obj.cells cs t):=fun e ht'=>by
  have hne:=CB.ne e e0 ht'
  rw [far_set _ _ _ _ hne,far_set _ _ _ _ hne,far_set _ _ _ _ hne,far_set _ _ _ _ hne,far_set _ _ _ _ hne]
  exact e
 have hb:∀ {W:World} {i:Nat} {v:Value},Below w.heap.size w W→Below w.heap.size w (W.setCell ⟨gL,i,none⟩ v):=fun hB=>hB.setCell (p:=⟨gL,_,none⟩) h.base.2.2.2.2 _
 exact ⟨mv h.nb (by decide),mv h.ra (by decide),mv h.rb (by decide),mv h.xc (by decide),mv h.xl (by decide),mv h.xh (by decide),mv h.nC (by decide),LB.set ⟨cur,e0,hc⟩ ht,h.base,hb (hb (hb (hb (hb h.below))))⟩
theorem kx_set {X:List Nat}(W:World){b i:Nat}{v:Value}(hb:b∈X):Kx X W (W.setCell ⟨b,i,none⟩ v):=⟨by simp,fun k _ _ _ hk e=>(far_set _ _ _ _ (fun q=>hk (by rw [q]; exact hb))).trans e⟩
end
theorem circle_any (w:World)(p q r:Option Addr)(ls cs la ca cf:Nat)(S:Nat→Int)(A:Nat→Ar)(F:Nat→Int)(hl:1≤ls)(hn:NetOk ls ls S la A)(hA:Arcs w q la A)(hF:Ints w r la F)(hq:∀ a,q=some a→a.block<w.heap.size)(hr:∀ a,r=some a→a.block<w.heap.size) :
  Calls Try.prog 42 #[.agg #[.int .i64 ls,.slice p ls cs,.slice q la ca],.slice r la cf] w fun e w'=>Below w.heap.size w w' ∧
   ((∃ v l x,e=.returned (.tuple #[v,.slice none 0 0])∧ORow w.heap.size w' v l∧l≠[]∧(∀ o∈l,IsOpn la A F o)∧WalkB x l x∧(l.map Opn.t).Nodup∧ksum l<0∧CircR (opsR A F la) (some l)) ∨
    (∃ g C,e=.returned (.tuple #[.slice none 0 0,.slice (some ⟨g,0,none⟩) ls ls])∧w.heap.size≤g∧Nums w' g ls C∧(∀ v,v<ls→-600000≤C v∧C v≤0)∧(∀ o,IsOpn la A F o→C o.t≤C o.f+o.k)∧CircR (opsR A F la) none)):=by
 refine (callsIn_wide (n:=5)).1 ?_
 refine callsIn_of_wp_marks Try.func42 rfl trivial ?_ rfl
 simp only [Try.ntmps42,List.size_toArray,List.length_cons,List.length_nil,Nat.reduceAdd,Nat.reduceSub,Array.replicate_succ,Array.replicate_zero,List.push_toArray,List.append_toArray,List.nil_append,List.cons_append]
 have h60:ls≤60:=by have:=hn.1.2; omega
 obtain ⟨i0,hi0,hz0,hz1,hz2⟩:=info_parts infoI
 obtain ⟨W0,hW0⟩:∃ W0,((w.alloc (.cells #[.int .i64 ls,.slice p ls cs,.slice q la ca] 39)).alloc (.cells #[.slice none 0 0] 95)).alloc (.cells #[.slice none 0 0] 22)=W0:=⟨_,rfl⟩
 have b0:Below w.heap.size w W0:=by rw [← hW0]; exact (((Jd _ _).alloc (Jb _) _).alloc (by simp) _).alloc (by simp; omega) _
 have z0:W0.heap.size=w.heap.size+3:=by rw [← hW0]; simp
 have c0:W0.heap[w.heap.size]?=some (.cells #[.int .i64 ls,.slice p ls cs,.slice q la ca] 39):=by
  rw [← hW0,Below.heap_alloc _ _ _ (by simp; omega),Below.heap_alloc _ _ _ (by simp)]
  exact heap_alloc_new w _
 have c1:Boxed W0 (w.heap.size+1) 95 (.slice none 0 0):=by
  have:=(Boxed.new (w.alloc (.cells #[.int .i64 ls,.slice p ls cs,.slice q la ca] 39)) 95 (.slice none 0 0)).alloc (.cells #[.slice none 0 0] 22)
  rw [hW0] at this
  simpa using this
 have c2:Boxed W0 (w.heap.size+1+1) 22 (.slice none 0 0):=by
  have:=Boxed.new ((w.alloc (.cells #[.int .i64 ls,.slice p ls cs,.slice q la ca] 39)).alloc (.cells #[.slice none 0 0] 95)) 22 (.slice none 0 0)
  rw [hW0] at this
  simpa using this
 have k0:=at_cells c0 0
 simp only [Jg,Je] at k0
 have H0:=hid (Jc hW0 (Jc b0 (Jc c0 (Jc c1 (Jc c2 z0)))))
 have hz:w.heap.size<W0.heap.size:=by omega
 clear hW0 b0 c0 c1 c2 z0
 gi_upto_region 1 with fail
 rw [H0.out.1]
 gi_upto_region 2 with (first
  | (gi_at_make; refine wpListIn_makeF _ rfl _ _ 22 rfl w.heap.size 3 i0 (.int .i64 0) 1 Try.underlying22 hi0 hz0 hz1 .i64 .i64 (ls:Int) (ls:Int) ls rfl rfl rfl rfl (by rw [hz2]; omega) (by unfold maxLen; omega) (by omega) ?_; intro w1 hrow hg1)
  | fail)
 have hzr:W0.heap.size<w1.heap.size:=by have:=World.ownsRow.lt hrow W0.heap.size rfl; omega
 have hnum:Nums w1 W0.heap.size ls (fun _=>0):=nums_made hrow rfl
 have bg1:Below W0.heap.size W0 w1:=⟨hg1.os,hg1.tape,hg1.output,hg1.size,fun b hb=>hg1.block b hb (by simp)⟩
 obtain ⟨W1,hW1⟩:∃ W1,w1.alloc (.cells #[.slice (some ⟨W0.heap.size,0,none⟩) ls ls] 22)=W1:=⟨_,rfl⟩
 have b1:Below w1.heap.size w1 W1:=by rw [← hW1]; exact (Jd _ _).alloc (Jb _) _
 have x1:Boxed W1 w1.heap.size 22 (.slice (some ⟨W0.heap.size,0,none⟩) ls ls):=by rw [← hW1]; exact heap_alloc_new _ _
 have z1:w1.heap.size<W1.heap.size:=by rw [← hW1]; simp
 obtain ⟨W2,hW2⟩:∃ W2,W1.alloc (.cells #[.int .i64 (-1),.int .i64 0,.int .i64 0,.int .i64 0,.int .i64 0] 99)=W2:=⟨_,rfl⟩
 have b2:Below W1.heap.size W1 W2:=by rw [← hW2]; exact (Jd _ _).alloc (Jb _) _
 have x2:W2.heap[W1.heap.size]?=some (.cells #[.int .i64 (-1),.int .i64 0,.int .i64 0,.int .i64 0,.int .i64 0] 99):=by rw [← hW2]; exact heap_alloc_new _ _
 have z2:W1.heap.size<W2.heap.size:=by rw [← hW2]; simp
 have bw2:Below W0.heap.size W0 W2:=beyond (beyond bg1 b1) b2
 have k1:w1.cell? ⟨w.heap.size,0,none⟩=some (.int .i64 ls):=(bg1.cell (p:=⟨w.heap.size,0,none⟩) (by show w.heap.size<_; omega)).trans k0
 have hzw:w.heap.size<w1.heap.size:=by omega
 have hz2':w.heap.size<W2.heap.size:=by omega
 have e1:W1.heap.size=w1.heap.size+1:=by rw [← hW1]; simp
 have A1:=callsIn_wide (n:=4)|>.2 (repeat_any W2 W1.heap.size ls hl h60 (-1,0,0,0,0) x2)
 rw [e1,← hW2,← hW1] at A1
 have A1:=hid A1
 have H1:=hid (Jc hW1 (Jc hW2 (Jc bw2 (Jc x1 (Jc hnum (Jc b1 (Jc b2 e1)))))))
 clear e1 hrow hg1 hnum bg1 hW1 b1 x1 hW2 b2 x2 bw2 k0
 gi_upto_region 3 with (first
  | (refine ⟨trivial,?_⟩; gi_at_call 56; refine A1.out.mono ?_; rintro e W3 ⟨rfl,hb3,cur3,hc3,hcv3⟩)
  | fail)
 obtain ⟨gL,hgL⟩:∃ gL,w1.heap.size+1+1=gL:=⟨_,rfl⟩
 obtain ⟨g1,hg1⟩:∃ g1,w1.heap.size+1=g1:=⟨_,rfl⟩
 have e2:((w1.alloc (.cells #[.slice (some ⟨W0.heap.size,0,none⟩) ls ls] 22)).alloc (.cells #[.int .i64 (-1),.int .i64 0,.int .i64 0,.int .i64 0,.int .i64 0] 99)).heap.size=gL:=by rw [← hgL]; simp
 rw [e2] at hb3 hc3
 rw [hgL,hg1]
 obtain ⟨W5,hW5⟩:∃ W5,(W3.alloc (.cells #[.slice (some ⟨gL,0,none⟩) ls ls] 95)).alloc (.cells #[.bool true] 4)=W5:=⟨_,rfl⟩
 have hgl3:gL<W3.heap.size:=(Ja.1 hc3).1
 have CB5:CB w #[.int .i64 ls,.slice p ls cs,.slice q la ca] ls w1.heap.size W3.heap.size (W3.heap.size+1) W0.heap.size gL (fun _=>0) (fun _=>none) true W5:=by
  obtain ⟨hW1,hW2,bw2,x1,hnum,bb1,bb2,e1⟩:=H1.out
  obtain ⟨hW0,b0,c0,c1,c2,z0⟩:=H0.out
  rw [hW1,hW2] at hb3
  have hsz2:W2.heap.size≤gL:=by rw [← e2,hW1,hW2]; exact Jb _
  have hb3':Below W2.heap.size W2 W3:=hb3.mono hsz2
  have b5:Below W3.heap.size W3 W5:=by rw [← hW5]; exact ((Jd _ _).alloc (Jb _) _).alloc (by simp) _
  have b03:Below W0.heap.size W0 W3:=beyond bw2 hb3'
  have b05:Below W0.heap.size W0 W5:=beyond b03 b5
  have b15:Below W1.heap.size W1 W5:=beyond (beyond bb2 hb3') b5
  have b25:Below w1.heap.size w1 W5:=beyond bb1 b15
  refine ⟨(b05.block _ (by omega)).trans c0,(b05.block _ (by omega)).trans c1,(b05.block _ (by omega)).trans c2,(b15.block _ (by omega)).trans x1,?_,?_,hnum.below b25,?_,by omega,beyond b0 b05⟩
  ·rw [← hW5]
   exact ((Boxed.new W3 95 _).alloc _)
  ·have:=Boxed.new (W3.alloc (.cells #[.slice (some ⟨gL,0,none⟩) ls ls] 95)) 4 (.bool true)
   rw [hW5] at this
   simpa using this
  ·exact ⟨cur3,(b5.block _ hgl3).trans hc3,fun v hv=>hcv3 v hv⟩
 obtain ⟨gC,hgC⟩:∃ gC,W0.heap.size=gC:=⟨_,rfl⟩
 obtain ⟨bc,hbc⟩:∃ bc,w1.heap.size=bc:=⟨_,rfl⟩
 obtain ⟨bl,hbl⟩:∃ bl,W3.heap.size=bl:=⟨_,rfl⟩
 have hgLB:gL<W5.heap.size:=Nat.lt_trans hgl3 (by rw [← hW5]; simp; omega)
 have HS:=hid (Jc CB5 (Jc hW5 hgLB))
 clear CB5 hc3 hcv3 hb3 e2 A1 hgL hg1 hgl3 hgLB
 gi_wp2_with fail
 rw [hgC,hbc,hbl] at HS
 simp only [hgC,hbc,hbl]
 clear hgC hbc hbl hW5
 refine wpIn_loop_ghost_k (fun m a W=>∃ (bh:Nat) (chp:Bool) (C:Nat→Int) (L:Nat→Option Opn) (Ds:List Nat) (u20 u21 u22 u23 u58:Value),a={ tmps:=#[.agg #[.int .i64 ls,.slice p ls cs,.slice q la ca],.slice r la cf,.pointer (some ⟨w.heap.size,0,none⟩),undef,.pointer (some ⟨w.heap.size+1,0,none⟩),.pointer (some ⟨w.heap.size+1+1,0,none⟩),.pointer (some ⟨bc,0,none⟩),.pointer (some ⟨bl,0,none⟩),.pointer (some ⟨bh,0,none⟩),undef,undef,undef,.pointer (some ⟨w.heap.size,0,none⟩),.int .i64 ls,.slice (some ⟨gC,0,none⟩) ls ls,.agg #[.int .i64 (-1),.int .i64 0,.int .i64 0,.int .i64 0,.int .i64 0],.slice (some ⟨g1,0,none⟩) 1 1,.pointer (some ⟨w.heap.size,0,none⟩),.int .i64 ls,.slice (some ⟨gL,0,none⟩) ls ls,u20,u21,u22,u23,undef,undef,undef,undef,undef,undef,undef,undef,undef,undef,undef,undef,undef,undef,undef,undef,undef,undef,undef,undef,undef,undef,undef,undef,undef,undef,undef,undef,undef,undef,undef,undef,undef,undef,u58,undef],defers:=Ds.map markD }∧Hid (CB w #[.int .i64 ls,.slice p ls cs,.slice q la ca] ls bc bl bh gC gL C L chp W∧CInv ls (IsOpn la A F) C L∧(∀ v,C v≤0)∧Ds.Nodup∧(∀ D∈Ds,w.heap.size≤D∧W.heap[D]?=some (.deferred (some [])))∧((chp=false→∀ o,IsOpn la A F o→C o.t≤C o.f+o.k)∧Rnds (opsR A F la) C L chp)∧2*sumC C ls+(if chp then 1 else 0)≤(m:Int))) (2*sumC (fun _=>0) ls+1).toNat ?start ?round
 case start=>exact ⟨bl+1,true,fun _=>0,fun _=>none,[],_,_,_,_,_,rfl,(show _∧_ from ⟨HS.out.1,CInv.zero _ _,fun _=>Int.le_refl _,List.nodup_nil,(fun D hD=>by cases hD),⟨(fun q=>by cases q),Rnds.start _⟩,by have:=sumC_nn (C:=fun _=>0) (n:=ls) (fun _ _=>by omega); simp only [if_true]; omega⟩)⟩
 case' round=>skip
 rintro m _ Z ⟨bh,chp,C,L,Ds,u20,u21,u22,u23,u58,rfl,HZ⟩ J K hJ hK
 have hcb:=HZ.out.1
 have y8:=hcb.xh.cell
 have l8:=hcb.xh.lt
 cases chp with
 | false =>
  have y6:=hcb.xc.cell
  have l6:=hcb.xc.lt
  have y4:=hcb.ra.cell
  have y5:=hcb.rb.cell
  have f4:=hcb.ra.frozen
  have f5:=hcb.rb.frozen
  have l4:=hcb.ra.lt
  have l5:=hcb.rb.lt
  have hbnd:∀ v,v<ls→-600000≤C v∧C v≤0:=fun v hv=>⟨HZ.out.2.1.bound h60 hv,HZ.out.2.2.1 v⟩
  have hfin:∀ W',W'=((Z.setCell ⟨w.heap.size+1,0,none⟩ (.slice none 0 0)).setCell ⟨w.heap.size+1+1,0,none⟩ (.slice (some ⟨gC,0,none⟩) ls ls)).drew∨W'=((Z.setCell ⟨w.heap.size+1+1,0,none⟩ (.slice (some ⟨gC,0,none⟩) ls ls)).setCell ⟨w.heap.size+1,0,none⟩ (.slice none 0 0)).drew→FinB w Z ls gC C W':=fun W' hW'=>(hcb.keep (Jd _ _).drew).fin (fun D hD=>hD) hW'
  have hne1:¬ bc=w.heap.size+1:=fun e=>by
   have h1:=hcb.xc
   have h2:=hcb.ra
   unfold Boxed at h1 h2
   rw [e,h2] at h1
   simp at h1
  have hne2:¬ w.heap.size+1=bc:=fun e=>hne1 e.symm
  have HF:=hid (Jc hfin hbnd)
  clear hcb hfin hbnd
  gi_wp2_with fail
  gi_region
  all_goals
   gi_wp2_with fail
   have fin:=HF.out.1 _ (by first | exact Jr rfl | exact Js rfl)
   have hdm:∀ D∈Ds,_:=fun D hD=>fin.marks D (HZ.out.2.2.2.2.1 D hD).2
   refine leaves_marks Ds _ HZ.out.2.2.2.1 hdm (fun W' hW hs ho ht hp=>?_)
   have mv:∀ {b:Nat} {cs:Array Value} {t:TypeId},_→W'.heap[b]?=some (Obj.cells cs t):=fun {b cs t} (e:_=some (Obj.cells cs t))=>(hW b (fun q=>by have h1:=hdm b q; rw [e] at h1; cases h1)).trans e
   have c4:Boxed W' (w.heap.size+1) 95 (.slice none 0 0):=mv fin.ra
   have c5:Boxed W' (w.heap.size+1+1) 22 (.slice (some ⟨gC,0,none⟩) ls ls):=mv fin.rb
   have cN:Nums W' gC ls C:=mv fin.nC
   have c4c:=c4.cell
   have c5c:=c5.cell
   refine ⟨.tuple #[.slice none 0 0,.slice (some ⟨gC,0,none⟩) ls ls],by simp [results,Try.f42,go_sem,c4c,c5c],⟨ho.trans fin.below.os,ht.trans fin.below.tape,hp.trans fin.below.output,by rw [hs]; exact fin.below.size,fun k hk=>?_⟩,Js ⟨gC,C,rfl,HZ.out.1.base.2.2.2.1,cN,HF.out.2,HZ.out.2.2.2.2.2.1.1 (by simp),HZ.out.2.2.2.2.2.1.2.2 rfl⟩⟩
   rw [hW k (fun q=>?_)]
   ·exact fin.below.block k hk
   ·have:=(HZ.out.2.2.2.2.1 k q).1
    omega
 | true =>
  have f8:=hcb.xh.frozen
  have k0:=at_cells hcb.nb 0
  have k1:=at_cells hcb.nb 1
  have k2:=at_cells hcb.nb 2
  simp only [Jg,Jf,Je] at k0 k1 k2
  have l2:w.heap.size<Z.heap.size:=(Ja.1 hcb.nb).1
  have hn8:¬ bh=w.heap.size:=fun e=>by
   have h1:=hcb.xh
   have h2:=hcb.nb
   unfold Boxed at h1
   rw [e,h2] at h1
   simp at h1
  have hn9:¬ w.heap.size=bh:=fun e=>hn8 e.symm
  have nbC:¬ gC=bh:=fun e=>by
   have h1:=hcb.xh
   have h2:=hcb.nC
   unfold Boxed at h1
   unfold Nums at h2
   rw [← e,h2] at h1
   simp at h1
  have hZ1:CB w #[.int .i64 ls,.slice p ls cs,.slice q la ca] ls bc bl bh gC gL C L false (Z.setCell ⟨bh,0,none⟩ (.bool false)):=by
   have ne:∀ {b:Nat} {cs':Array Value} {t:TypeId},Z.heap[b]?=some (Obj.cells cs' t)→t≠4→b≠bh:=fun {b cs' t} e ht q=>by
    have h1:=hcb.xh
    unfold Boxed at h1
    rw [← q,e] at h1
    simp at h1
    exact ht h1.2
   have mv:∀ {b:Nat} {cs':Array Value} {t:TypeId},Z.heap[b]?=some (Obj.cells cs' t)→t≠4→(Z.setCell ⟨bh,0,none⟩ (.bool false)).heap[b]?=some (Obj.cells cs' t):=fun e ht=>(far_set _ _ _ _ (ne e ht)).trans e
   obtain ⟨cur,e,hc⟩:=hcb.nL
   exact ⟨mv hcb.nb (by decide),mv hcb.ra (by decide),mv hcb.rb (by decide),mv hcb.xc (by decide),mv hcb.xl (by decide),box_set hcb.xh,mv hcb.nC (by decide),⟨cur,mv e (by decide),hc⟩,hcb.base,hcb.below.setCell (p:=⟨bh,0,none⟩) hcb.base.2.2.1 _⟩
  have HB:=hid hZ1
  clear hcb hZ1
  gi_wp2_with (refine ⟨trivial,?_⟩; gi_at_call 57; refine (opens_in _ _ _ _ _ _ _ _ _ _ _ _).mono ?_; rintro e w' ⟨rfl,rfl⟩)
  obtain ⟨Z1,hZ1⟩:∃ Z1,Z.setCell ⟨bh,0,none⟩ (.bool false)=Z1:=⟨_,rfl⟩
  have hs1:Z1.heap.size=Z.heap.size:=by rw [← hZ1]; simp
  rw [hZ1] at HB ⊢
  obtain ⟨Z2,hZ2⟩:∃ Z2,(Z1.alloc (.cells #[.int .i64 ls,.slice p ls cs,.slice q la ca] 39)).alloc (.cells #[.slice r la cf] 22)=Z2:=⟨_,rfl⟩
  have b12:Below Z1.heap.size Z1 Z2:=by rw [← hZ2]; exact ((Jd _ _).alloc (Jb _) _).alloc (by simp) _
  have hs2:Z2.heap.size=Z.heap.size+2:=by rw [← hZ2]; simp [hs1]
  have hBn:Z2.heap[Z.heap.size]?=some (.cells #[.int .i64 ls,.slice p ls cs,.slice q la ca] 39):=by
   rw [← hZ2,Below.heap_alloc _ _ _ (by simp; omega),← hs1]
   exact heap_alloc_new Z1 _
  have hBf:Z2.heap[Z.heap.size+1]?=some (.cells #[.slice r la cf] 22):=by
   have:=heap_alloc_new (Z1.alloc (.cells #[.int .i64 ls,.slice p ls cs,.slice q la ca] 39)) (.cells #[.slice r la cf] 22)
   rw [hZ2] at this
   simpa [hs1] using this
  have CB2:=HB.out.keep b12
  have bw2:=CB2.below
  have hX:∀ b∈[gC,gL,bh],w.heap.size≤b∧b<Z.heap.size:=fun b hb=>by
   have h1:=HZ.out.1.base
   have h2:=HZ.out.1.nC.lt
   have h3:=HZ.out.1.nL.lt
   simp at hb
   rcases hb with rfl | rfl | rfl <;> omega
  have hI0:CI w #[.int .i64 ls,.slice p ls cs,.slice q la ca] ls bc bl bh gC gL la A F Ds Z2.heap.size C L [] C L false Z2:=⟨CB2,HZ.out.2.1,HZ.out.2.2.1,fun D hD=>by
   obtain ⟨h1,h2⟩:=HZ.out.2.2.2.2.1 D hD
   have hl:=(Ja.1 h2).1
   refine ⟨by omega,h1,?_⟩
   rw [b12.block D (by omega),← hZ1,far_set _ _ _ _ (fun e=>by have h3:=HZ.out.1.xh; unfold Boxed at h3; rw [← e,h2] at h3; cases h3)]
   exact h2,Jb _,fun _=>⟨rfl,(fun x hx=>by cases hx)⟩,(fun q=>by cases q),RTr.nil _ _⟩
  have HI:=hid (Jc hI0 (Jc hX (Jc hs1 hs2)))
  have hBw:w.heap.size≤Z2.heap.size:=by omega
  clear b12 CB2 hI0 hs1
  rw [hZ2]
  clear hZ2
  refine wpIn_rangeFunc_ownH rfl (by decide) (gf:=70) (lb:=#[.pointer (some ⟨Z.heap.size,0,none⟩),.pointer (some ⟨Z.heap.size+1,0,none⟩)]) rfl trivial (enters_of Try.func70 (by kernel_rfl) rfl)
   (opens_x [gC,gL,bh] 4 (by decide) _ _ Z2 p q r ls cs la ca cf S A F hn (hA.below bw2) (hF.below bw2) hBn hBf (fun a e hm=>by have:=hq a e; have:=(hX _ hm).1; omega) (fun a e hm=>by have:=hr a e; have:=(hX _ hm).1; omega) (fun hm=>by have:=(hX _ hm).2; omega) (fun hm=>by have:=(hX _ hm).2; omega) (fun b hb=>by have:=(hX b hb).2; omega)) Kx.trans (fun W l o o' h1 h2 h3 h4=>Kx.put (w:=Z2) W l o o' h1 h2 h3 h4) (Jd _ _) (fun _=>rfl)
   (fun pre W=>∃ C' L' chp',Hid (CI w #[.int .i64 ls,.slice p ls cs,.slice q la ca] ls bc bl bh gC gL la A F Ds Z2.heap.size C L pre C' L' chp' W))
   (fun c pre W=>∃ v l x,(c=.ret∧∀ ops,pre.map Op4.opn <+: ops→Stops (C,L) ops l)∧Hid (CX w la A F Ds Z2.heap.size v l x W))
   (fun pre W W' row ⟨C',L',chp',h⟩ hg hr=>⟨C',L',chp',h.out.grown hBw hg hr⟩)
   (fun c pre W W' row ⟨v,l,x,e,h⟩ hg hr=>⟨v,l,x,e,h.out.grown hBw hg hr⟩)
   ⟨C,L,false,HI.out.1⟩
   (fun x a' W=>∃ Bx,Z2.heap.size≤Bx∧W.heap[Bx]?=some (.cells #[.int .i64 x.1.1.1,.int .i64 x.1.1.2.1,.int .i64 x.1.1.2.2.1,.int .i64 x.1.1.2.2.2.1,.int .i64 x.1.1.2.2.2.2] 99)∧a'={ tmps:=#[.agg #[.int .i64 ls,.slice p ls cs,.slice q la ca],.slice r la cf,.pointer (some ⟨w.heap.size,0,none⟩),undef,.pointer (some ⟨w.heap.size+1,0,none⟩),.pointer (some ⟨w.heap.size+1+1,0,none⟩),.pointer (some ⟨bc,0,none⟩),.pointer (some ⟨bl,0,none⟩),.pointer (some ⟨bh,0,none⟩),.pointer (some ⟨Bx,0,none⟩),undef,undef,.pointer (some ⟨w.heap.size,0,none⟩),.int .i64 ls,.slice (some ⟨gC,0,none⟩) ls ls,.agg #[.int .i64 (-1),.int .i64 0,.int .i64 0,.int .i64 0,.int .i64 0],.slice (some ⟨g1,0,none⟩) 1 1,.pointer (some ⟨w.heap.size,0,none⟩),.int .i64 ls,.slice (some ⟨gL,0,none⟩) ls ls,.bool true,.agg #[.int .i64 ls,.slice p ls cs,.slice q la ca],.slice r la cf,.func (.func 70) #[] #[.pointer (some ⟨Z.heap.size,0,none⟩),.pointer (some ⟨Z.heap.size+1,0,none⟩)],.agg #[.int .i64 x.1.1.1,.int .i64 x.1.1.2.1,.int .i64 x.1.1.2.2.1,.int .i64 x.1.1.2.2.2.1,.int .i64 x.1.1.2.2.2.2],undef,undef,undef,undef,undef,undef,undef,undef,undef,undef,undef,undef,undef,undef,undef,undef,undef,undef,undef,undef,undef,undef,undef,undef,undef,undef,undef,undef,undef,undef,undef,undef,undef,u58,undef],defers:=[] })
   (fun x a' _ X Y row hs hg hrow=>by
    obtain ⟨Bx,h0,h1,h2⟩:=hs
    refine ⟨Bx,h0,(hg.block Bx (Ja.1 h1).1 (fun e'=>?_)).trans h1,h2⟩
    obtain ⟨_,o,ho,hc⟩:=hrow Bx e'.symm
    rw [h1] at ho
    cases ho
    cases hc) ?assign ?body ?done ?stop
  case assign =>
   rintro l pre x W K' ⟨C',L',chp',h⟩ hK'
   simp only [encO]
   gi_wp2
   have hbW:Below W.heap.size W (W.alloc (.cells #[.int .i64 x.1.1.1,.int .i64 x.1.1.2.1,.int .i64 x.1.1.2.2.1,.int .i64 x.1.1.2.2.2.1,.int .i64 x.1.1.2.2.2.2] 99)):=(Jd _ _).alloc (Jb _) _
   exact hK' _ _ ((KeepsOthers.alloc _ _).from _) (Kx.of_below hbW) ⟨C',L',chp',h.out.grown hBw (World.grownBy_alloc W _ none) (fun r e=>by cases e)⟩ ⟨W.heap.size,h.out.size,heap_alloc_new W _,rfl⟩
  case body =>
   rintro l pre x a' W hlW ⟨rr,hrr⟩ ⟨C',L',chp',h⟩ ⟨Bx,hBx0,hBx,rfl⟩ hlt
   obtain ⟨hopn,hx1,hof,hot,hok0,hok1⟩:=x.is
   obtain ⟨o,ho⟩:∃ o,x.opn=o:=⟨_,rfl⟩
   rw [ho] at hopn hx1 hof hot hok0 hok1
   simp only [hx1] at hBx ⊢
   have hcf0:=h.out.inv.bound h60 hof
   have hcf1:=h.out.neg o.f
   have hct0:=h.out.inv.bound h60 hot
   have hct1:=h.out.neg o.t
   have kx0:=at_cells hBx 0
   have kx1:=at_cells hBx 1
   have kx2:=at_cells hBx 2
   have kx3:=at_cells hBx 3
   have kx4:=at_cells hBx 4
   simp only [Jg,Jf,Je] at kx0 kx1 kx2 kx3 kx4
   have z0:Bx<W.heap.size:=(Ja.1 hBx).1
   have y6:=h.out.mem.xc.cell
   have l6:=h.out.mem.xc.lt
   have gf:=h.out.mem.nC.cell hof
   have gt:=h.out.mem.nC.cell hot
   have lC:=h.out.mem.nC.lt
   have HW:=hid (Jc hBx (Jc hrr (Jc hlW hx1)))
   clear hBx hrr hlW hx1 hlt
   by_cases hs:C' o.f+o.k<C' o.t
   ·have hlt':¬ C' o.t≤C' o.f+o.k:=by omega
    have y8:=h.out.mem.xh.cell
    have f8:=h.out.mem.xh.frozen
    have l8:=h.out.mem.xh.lt
    gi_wp2
    refine region_round rfl (by kernel_rfl) (by kernel_rfl) (by kernel_rfl) ?_
    repeat (gi_big_quiet_step (fail))
    refine wpQuietIn_nil ?_
    rintro _ ⟨nq,rfl⟩
    gi_wp2
    obtain ⟨V,hV⟩:∃ V,(W.drewN nq).setCell ⟨bh,0,none⟩ (.bool true)=V:=⟨_,rfl⟩
    rw [hV]
    have CBV:CB w #[.int .i64 ls,.slice p ls cs,.slice q la ca] ls bc bl bh gC gL C' L' true V:=by rw [← hV]; exact (h.out.mem.keep (below_drewN (Jd _ _))).flag true
    have hBxV:V.heap[Bx]?=some (.cells #[.int .i64 o.f,.int .i64 o.t,.int .i64 o.k,.int .i64 o.a,.int .i64 o.b] 99):=by
     rw [← hV]
     exact (far_set _ _ _ _ (CB.ne HW.out.1 h.out.mem.xh (by decide))).trans HW.out.1
    have hKV:KeepsOthers W V:=by rw [← hV]; exact (keeps_drewN _ _).trans (KeepsOthers.setCell _ _ _)
    have hXV:Kx [gC,gL,bh] W V:=by rw [← hV]; exact (Kx.of_below (below_drewN (Jd _ _))).trans (kx_set _ (by simp))
    have hBL:Bx≠gL:=fun e=>by have:=(HI.out.2.1 gL (by simp)).2; have:=HI.out.2.2.2; omega
    have hSV:S11 bc bl Bx gC gL ls o V.drew:=⟨CBV.xc.cell,CBV.xl.cell,by rw [cell_drew_own,at_cells hBxV]; rfl,by rw [cell_drew_own,at_cells hBxV]; rfl,by rw [cell_drew_own,at_cells hBxV]; rfl,by rw [cell_drew_own,at_cells hBxV]; rfl,by rw [cell_drew_own,at_cells hBxV]; rfl⟩
    have gtV:=CBV.nC.cell hot
    have gtF:=CBV.nC.frozen o.t
    have HV:=hid (Jc CBV (Jc hBxV (Jc hKV (Jc hXV hBL))))
    clear hV hBxV hKV hXV hBL CBV kx0 kx1 kx2 kx3 kx4 y6 y8 f8 gf gt
    refine held_round (S:=S11 bc bl Bx gC gL ls o) (by kernel_rfl) (fun ⟨_,_,hh⟩=>hh) (by kernel_rfl) hSV (fun _=>?_)
    refine tkH (v:=?_) 0 40 hSV ?_ ?_; rotate_left 1
    ·(rintro w' hq; have e1:=hq.e6; have e2:=hq.e7; have e3:=hq.x0; have e4:=hq.x1; have e5:=hq.x2; have e6:=hq.x3; have e7:=hq.x4; clear hq; go_simp; try with_reducible rfl)
    simp only [Act.put,Jh,Ji,Jj]
    refine tkH (v:=?_) 1 41 hSV ?_ ?_; rotate_left 1
    ·(rintro w' hq; have e1:=hq.e6; have e2:=hq.e7; have e3:=hq.x0; have e4:=hq.x1; have e5:=hq.x2; have e6:=hq.x3; have e7:=hq.x4; clear hq; go_simp; try with_reducible rfl)
    simp only [Act.put,Jh,Ji,Jj]
    refine tkH (v:=?_) 2 42 hSV ?_ ?_; rotate_left 1
    ·(rintro w' hq; have e1:=hq.e6; have e2:=hq.e7; have e3:=hq.x0; have e4:=hq.x1; have e5:=hq.x2; have e6:=hq.x3; have e7:=hq.x4; clear hq; go_simp; try with_reducible rfl)
    simp only [Act.put,Jh,Ji,Jj]
    refine tkH (v:=?_) 3 43 hSV ?_ ?_; rotate_left 1
    ·(rintro w' hq; have e1:=hq.e6; have e2:=hq.e7; have e3:=hq.x0; have e4:=hq.x1; have e5:=hq.x2; have e6:=hq.x3; have e7:=hq.x4; clear hq; go_simp; try with_reducible rfl)
    simp only [Act.put,Jh,Ji,Jj]
    refine tkH (v:=?_) 4 44 hSV ?_ ?_; rotate_left 1
    ·(rintro w' hq; have e1:=hq.e6; have e2:=hq.e7; have e3:=hq.x0; have e4:=hq.x1; have e5:=hq.x2; have e6:=hq.x3; have e7:=hq.x4; clear hq; go_simp; try with_reducible rfl)
    simp only [Act.put,Jh,Ji,Jj]
    refine tkH (v:=?_) 5 45 hSV ?_ ?_; rotate_left 1
    ·(rintro w' hq; have e1:=hq.e6; have e2:=hq.e7; have e3:=hq.x0; have e4:=hq.x1; have e5:=hq.x2; have e6:=hq.x3; have e7:=hq.x4; clear hq; go_simp; try with_reducible rfl)
    simp only [Act.put,Jh,Ji,Jj]
    refine tkH (v:=?_) 6 46 hSV ?_ ?_; rotate_left 1
    ·(rintro w' hq; have e1:=hq.e6; have e2:=hq.e7; have e3:=hq.x0; have e4:=hq.x1; have e5:=hq.x2; have e6:=hq.x3; have e7:=hq.x4; clear hq; go_simp; try with_reducible rfl)
    simp only [Act.put,Jh,Ji,Jj]
    refine tkH (v:=?_) 7 47 hSV ?_ ?_; rotate_left 1
    ·(rintro w' hq; have e1:=hq.e6; have e2:=hq.e7; have e3:=hq.x0; have e4:=hq.x1; have e5:=hq.x2; have e6:=hq.x3; have e7:=hq.x4; clear hq; go_simp; try with_reducible rfl)
    simp only [Act.put,Jh,Ji,Jj]
    refine tkH (v:=?_) 8 48 hSV ?_ ?_; rotate_left 1
    ·(rintro w' hq; have e1:=hq.e6; have e2:=hq.e7; have e3:=hq.x0; have e4:=hq.x1; have e5:=hq.x2; have e6:=hq.x3; have e7:=hq.x4; clear hq; go_simp; try with_reducible rfl)
    simp only [Act.put,Jh,Ji,Jj]
    have nC1:bc≠gC:=CB.ne HV.out.1.xc HV.out.1.nC (by decide)
    have nC2:bl≠gC:=CB.ne HV.out.1.xl HV.out.1.nC (by decide)
    have nC3:Bx≠gC:=CB.ne HV.out.2.1 HV.out.1.nC (by decide)
    refine wpAnyH_ready (rs:=[9]) (by kernel_rfl) (by simp) ?_
    refine AllReadyH.cons rfl (fun K hK=>?_) AllReadyH.nil
    go_simp
    have hS2:=hSV.set (i:=o.t) (v:=.int .i64 (C' o.f+o.k)) nC1 nC2 nC3
    refine hK.out _ _ hS2 (fun _=>?_)
    clear hK K
    have CB1:=HV.out.1.cost o.t (C' o.f+o.k)
    obtain ⟨V1,hV1⟩:∃ V1,V.setCell ⟨gC,o.t,none⟩ (.int .i64 (C' o.f+o.k))=V1:=⟨_,rfl⟩
    rw [hV1] at CB1 ⊢
    have hS3:S11 bc bl Bx gC gL ls o V1.drew:=by rw [← hV1]; exact hS2
    have hB1:V1.heap[Bx]?=some (.cells #[.int .i64 o.f,.int .i64 o.t,.int .i64 o.k,.int .i64 o.a,.int .i64 o.b] 99):=by rw [← hV1]; exact (far_set _ _ _ _ nC3).trans HV.out.2.1
    have hK1:KeepsOthers W V1:=by rw [← hV1]; exact HV.out.2.2.1.trans (KeepsOthers.setCell _ _ _)
    have hX1:Kx [gC,gL,bh] W V1:=by rw [← hV1]; exact HV.out.2.2.2.1.trans (kx_set _ (by simp))
    obtain ⟨cur1,hc1,_⟩:=CB1.nL
    have nL1:bc≠gL:=CB.ne CB1.xc hc1 (by decide)
    have nL2:bl≠gL:=CB.ne CB1.xl hc1 (by decide)
    have nL3:Bx≠gL:=HV.out.2.2.2.2
    obtain ⟨p0,q0⟩:=CB1.nL.cell (j:=0) hot (by omega)
    obtain ⟨p1,q1⟩:=CB1.nL.cell (j:=1) hot (by omega)
    obtain ⟨p2,q2⟩:=CB1.nL.cell (j:=2) hot (by omega)
    obtain ⟨p3,q3⟩:=CB1.nL.cell (j:=3) hot (by omega)
    obtain ⟨p4,q4⟩:=CB1.nL.cell (j:=4) hot (by omega)
    obtain ⟨c0,p0⟩:=Option.isSome_iff_exists.1 p0
    obtain ⟨c1,p1⟩:=Option.isSome_iff_exists.1 p1
    obtain ⟨c2,p2⟩:=Option.isSome_iff_exists.1 p2
    obtain ⟨c3,p3⟩:=Option.isSome_iff_exists.1 p3
    obtain ⟨c4,p4⟩:=Option.isSome_iff_exists.1 p4
    rw [Nat.add_zero] at p0 q0
    have HV1:=hid (Jc CB1 (Jc hB1 (Jc hK1 hX1)))
    clear hV1 CB1 hB1 hK1 hX1 hS2 hc1 HV gtV gtF hSV
    refine tkH (v:=?_) 10 49 hS3 ?_ ?_; rotate_left 1
    ·(rintro w' hq; have e1:=hq.e6; have e2:=hq.e7; have e3:=hq.x0; have e4:=hq.x1; have e5:=hq.x2; have e6:=hq.x3; have e7:=hq.x4; clear hq; go_simp; try with_reducible rfl)
    simp only [Act.put,Jh,Ji,Jj]
    refine wpAnyH_ready (rs:=[11]) (by kernel_rfl) (by simp) ?_
    refine AllReadyH.cons rfl (fun K hK=>?_) AllReadyH.nil
    go_simp
    have hS4:S11 bc bl Bx gC gL ls o _:=((((hS3.set (i:=o.t*5) (v:=.int .i64 o.f) nL1 nL2 nL3).set (i:=o.t*5+1) (v:=.int .i64 o.t) nL1 nL2 nL3).set (i:=o.t*5+2) (v:=.int .i64 o.k) nL1 nL2 nL3).set (i:=o.t*5+3) (v:=.int .i64 o.a) nL1 nL2 nL3).set (i:=o.t*5+4) (v:=.int .i64 o.b) nL1 nL2 nL3
    refine hK.out _ _ hS4 (fun _=>?_)
    clear hK K
    refine wpAnyH_done (by kernel_rfl) ?_ _
    obtain ⟨V3,hV3⟩:∃ V3,(((((V1.setCell ⟨gL,o.t*5,none⟩ (.int .i64 o.f)).setCell ⟨gL,o.t*5+1,none⟩ (.int .i64 o.t)).setCell ⟨gL,o.t*5+2,none⟩ (.int .i64 o.k)).setCell ⟨gL,o.t*5+3,none⟩ (.int .i64 o.a)).setCell ⟨gL,o.t*5+4,none⟩ (.int .i64 o.b)).drew=V3:=⟨_,rfl⟩
    have CB3:CB w #[.int .i64 ls,.slice p ls cs,.slice q la ca] ls bc bl bh gC gL (updI C' o.t (C' o.f+o.k)) (updO L' o.t o) true V3:=by rw [← hV3]; exact (HV1.out.1.last hot).keep (Jd _ _).drew
    rw [hV3]
    have hB3:V3.heap[Bx]?=some (.cells #[.int .i64 o.f,.int .i64 o.t,.int .i64 o.k,.int .i64 o.a,.int .i64 o.b] 99):=by
     rw [← hV3]
     exact (far_set _ _ _ _ nL3).trans ((far_set _ _ _ _ nL3).trans ((far_set _ _ _ _ nL3).trans ((far_set _ _ _ _ nL3).trans ((far_set _ _ _ _ nL3).trans HV1.out.2.1))))
    have hK3:KeepsOthers W V3:=by rw [← hV3]; exact (((((HV1.out.2.2.1.trans (KeepsOthers.setCell _ _ _)).trans (KeepsOthers.setCell _ _ _)).trans (KeepsOthers.setCell _ _ _)).trans (KeepsOthers.setCell _ _ _)).trans (KeepsOthers.setCell _ _ _)).trans (KeepsOthers.drew _)
    have hX3:Kx [gC,gL,bh] W V3:=by rw [← hV3]; exact (((((HV1.out.2.2.2.trans (kx_set _ (by simp))).trans (kx_set _ (by simp))).trans (kx_set _ (by simp))).trans (kx_set _ (by simp))).trans (kx_set _ (by simp))).trans (Kx.of_below (Jd _ _).drew)
    obtain ⟨l',u,T,hcase⟩:=h.out.inv.next o hopn hof hot hok0 hs
    have hu:u=o.t∨(u≠o.t∧L' u=none):=hcase.elim (fun q=>Jr q.1) (fun q=>Js ⟨q.1,q.2.1⟩)
    obtain ⟨hBk,hend,_,hlenB⟩:=back_of h.out.inv hot hof T hu
    have A1:=hid (CallsIn.inRound l ((callsIn_wide (n:=5 - 1 - 1 - 1)).2 (back_any (cap:=ls) CB3.nL.lat hBk (by simp) (by omega))))
    have kb1:V3.cell? ⟨Bx,1,none⟩=some (.int .i64 o.t):=by rw [at_cells hB3]; rfl
    have lb1:Bx<V3.heap.size:=(Ja.1 hB3).1
    have y7:=CB3.xl.cell
    have l7:=CB3.xl.lt
    have HB0:=hid (Jc hBk hend)
    obtain ⟨ll,hll⟩:∃ ll,o :: l'=ll:=⟨_,rfl⟩
    have hpos:(0:Int)<(ll.length:Int):=by rw [← hll]; simp
    rw [hll] at A1 hend
    have hmk:∀ D∈Ds,D<Z2.heap.size∧w.heap.size≤D∧V3.heap[D]?=some (.deferred (some [])):=fun D hD=>by
     obtain ⟨h1,h2,h3⟩:=h.out.marks D hD
     exact ⟨h1,h2,hK3.same D _ h3 rfl⟩
    have hsz3:Z2.heap.size≤V3.heap.size:=Nat.le_trans h.out.size hK3.size
    have H3:=hid (Jc CB3 (Jc hK3 (Jc hX3 (Jc hmk (Jc hsz3 (Jc hll hend))))))
    clear hV3 CB3 hB3 hK3 hX3 HV1 hS3 hS4 hBk p0 p1 p2 p3 p4 q0 q1 q2 q3 q4 hmk hsz3 hll hend hu hlenB
    rcases hcase with ⟨hu,hsum,hnod⟩ | ⟨hune,hu0,hinv⟩
    ·have HC:=hid (Jc hu (Jc hsum hnod))
     clear hu hsum hnod
     gi_wp2_with (first
      | (first | (refine ⟨trivial,?_⟩; gi_at_call 58) | gi_at_call 58); refine A1.out.mono ?_; rintro e V4 ⟨v,rfl,hb4,hc4⟩; (have hrow:ORow V3.heap.size V4 v ll:=hc4.elim (fun q=>q.2) (fun q=>absurd (H3.out.2.2.2.2.2.2.trans HC.out.1) q.1)); obtain ⟨pv,cv,hv⟩:=hrow.sl; subst hv; have CB4:=H3.out.1.keep hb4; have y4:=CB4.ra.cell; have y5:=CB4.rb.cell; have f4:=CB4.ra.frozen; have f5:=CB4.rb.frozen; have l4:=CB4.ra.lt; have l5:=CB4.rb.lt; have H4:=hid (Jc CB4 (Jc hb4 hrow)); clear CB4 hb4 hrow hc4 A1
      | fail)
     have hst:∀ ops,(pre ++ [x]).map Op4.opn <+: ops→Stops (C,L) ops ll:=fun ops hops=>by
      rw [List.map_append,List.map_singleton,ho] at hops
      have:=h.out.tr.stops hs HB0.out.1 (by simp) (HB0.out.2.trans HC.out.1) ops hops
      rw [H3.out.2.2.2.2.2.1] at this
      exact this
     have l1:w.heap.size+1<V3.heap.size:=H3.out.1.ra.lt
     have l2':w.heap.size+1+1<V3.heap.size:=H3.out.1.rb.lt
     refine ⟨((((H3.out.2.1.trans ⟨H4.out.2.1.size,fun k ob hk _=>(H4.out.2.1.block k (Ja.1 hk).1).trans hk⟩).trans (KeepsOthers.setCell _ _ _)).trans (KeepsOthers.setCell _ _ _)).from _),.slice pv ll.length cv,ll,o.t,⟨rfl,hst⟩,(show CX w la A F Ds Z2.heap.size (.slice pv ll.length cv) ll o.t _ from ⟨(far_set _ _ _ _ (by omega)).trans (box_set H4.out.1.ra),box_set ((far_set _ _ _ _ (by omega)).trans H4.out.1.rb),⟨H4.out.2.2.1,?_⟩,?_,?_,?_,?_,?_,?_,?_⟩)⟩
     ·rcases H4.out.2.2.2 with q | ⟨g,cap,cur,e,e0,hgc,q⟩
      ·exact Jr q
      ·exact Js ⟨g,cap,cur,e,by omega,(far_set _ _ _ _ (by omega)).trans ((far_set _ _ _ _ (by omega)).trans hgc),q⟩
     ·intro e
      rw [e] at hpos
      simp at hpos
     ·intro o' ho'
      rw [← H3.out.2.2.2.2.2.1] at ho'
      rcases List.mem_cons.1 ho' with rfl | ho'
      ·exact hopn
      ·exact (h.out.inv.kept _ _ (T.kept _ ho')).2.1
     ·rw [← H3.out.2.2.2.2.2.1]
      have:=T.walk
      rw [HC.out.1] at this
      exact ⟨rfl,this⟩
     ·rw [← H3.out.2.2.2.2.2.1]
      exact HC.out.2.2
     ·rw [← H3.out.2.2.2.2.2.1]
      exact HC.out.2.1
     ·exact (H4.out.1.below.setCell (p:=⟨w.heap.size+1,0,none⟩) (by show w.heap.size≤w.heap.size+1; omega) _).setCell (p:=⟨w.heap.size+1+1,0,none⟩) (by show w.heap.size≤w.heap.size+1+1; omega) _
     ·intro D hD
      obtain ⟨h1,h2,h3⟩:=H3.out.2.2.2.1 D hD
      have h4:=(H4.out.2.1.block D (Ja.1 h3).1).trans h3
      have n1:D≠w.heap.size+1:=fun e=>by
       have h5:=H4.out.1.ra
       unfold Boxed at h5
       rw [← e,h4] at h5
       cases h5
      have n2:D≠w.heap.size+1+1:=fun e=>by
       have h5:=H4.out.1.rb
       unfold Boxed at h5
       rw [← e,h4] at h5
       cases h5
      exact ⟨h1,h2,(far_set _ _ _ _ n2).trans ((far_set _ _ _ _ n1).trans h4)⟩
    ·have HC:=hid (Jc hune (Jc hu0 hinv))
     clear hune hu0 hinv
     gi_wp2_with (first
      | (first | (refine ⟨trivial,?_⟩; gi_at_call 58) | gi_at_call 58); refine A1.out.mono ?_; rintro e V4 ⟨v,rfl,hb4,hc4⟩; (have hv:v=.slice none 0 0:=hc4.elim (fun q=>absurd (H3.out.2.2.2.2.2.2.symm.trans q.1) HC.out.1) (fun q=>q.2)); subst hv; have H4:=hid hb4; clear hb4 hc4 A1
      | fail)
     refine ⟨(H3.out.2.1.trans ⟨H4.out.size,fun k ob hk _=>(H4.out.block k (Ja.1 hk).1).trans hk⟩).from _,H3.out.2.2.1.trans (Kx.of_below H4.out),updI C' o.t (C' o.f+o.k),updO L' o.t o,true,(show CI w _ ls bc bl bh gC gL la A F Ds Z2.heap.size C L (pre ++ [x]) _ _ true V4 from ⟨H3.out.1.keep H4.out,HC.out.2.2,fun v=>?_,fun D hD=>?_,Nat.le_trans H3.out.2.2.2.2.1 H4.out.size,(fun q=>by cases q),fun _=>?_,by rw [List.map_append,List.map_singleton,ho]; exact h.out.tr.upd hs HB0.out.1 (by simp) (fun e=>HC.out.1 (HB0.out.2.symm.trans e))⟩)⟩
     ·unfold updI
      split
      ·omega
      ·exact h.out.neg v
     ·obtain ⟨h1,h2,h3⟩:=H3.out.2.2.2.1 D hD
      exact ⟨h1,h2,(H4.out.block D (Ja.1 h3).1).trans h3⟩
     ·have h1:=sumC_upd (C:=C') hot hs
      cases chp' with
      | false=>rw [(h.out.no rfl).1] at h1 ⊢; exact h1
      | true=>exact Int.lt_trans h1 (h.out.yes rfl)
   ·have hge:C' o.t≤C' o.f+o.k:=by omega
    gi_wp2
    refine region_round rfl (by kernel_rfl) (by kernel_rfl) (by kernel_rfl) ?_
    repeat (gi_big_quiet_step (fail))
    refine wpQuietIn_nil ?_
    rintro _ ⟨nq,rfl⟩
    gi_wp2
    refine ⟨(keeps_drewN W nq).from _,Kx.of_below (below_drewN (Jd _ _)),C',L',chp',(show CI w _ ls bc bl bh gC gL la A F Ds Z2.heap.size C L (pre ++ [x]) C' L' chp' (W.drewN nq) from ⟨h.out.mem.keep (below_drewN (Jd _ _)),h.out.inv,h.out.neg,h.out.marks,h.out.size,fun q=>⟨(h.out.no q).1,fun y hy=>?_⟩,h.out.yes,by rw [List.map_append,List.map_singleton,ho]; exact h.out.tr.skip hge⟩)⟩
    rcases List.mem_append.1 hy with hy | hy
    ·exact (h.out.no q).2 y hy
    ·rw [List.mem_singleton.1 hy,ho]
     exact hge
  case done =>
   rintro D ys W hD hS ⟨C',L',chp',h⟩ hKD
   have y8':=h.out.mem.xh.cell
   have l8':=h.out.mem.xh.lt
   have hsv:chp'=false→∀ o,IsOpn la A F o→C' o.t≤C' o.f+o.k:=fun q o ho=>by
    obtain ⟨e,h1⟩:=h.out.no q
    exact none_saves hS.1 h1 o ho
   have hrn:Rnds (opsR A F la) C' L' chp':=by
    have ht:=h.out.tr
    rw [hS.2] at ht
    exact HZ.out.2.2.2.2.2.1.2.next ht
   have hmem:CB w #[.int .i64 ls,.slice p ls cs,.slice q la ca] ls bc bl W.heap.size gC gL C' L' chp' (W.alloc (.cells #[.bool chp'] 4)):=by
    have h1:=h.out.mem.keep (W':=W.alloc (.cells #[.bool chp'] 4)) ((Jd _ _).alloc (Jb _) _)
    exact ⟨h1.nb,h1.ra,h1.rb,h1.xc,h1.xl,Boxed.new W 4 _,h1.nC,h1.nL,⟨h1.base.1,h1.base.2.1,h.out.mem.below.size,h1.base.2.2.2⟩,h1.below⟩
   have hms:(2*sumC C' ls+(if chp'=true then 1 else 0)).toNat<m∧2*sumC C' ls+(if chp'=true then 1 else 0)≤((2*sumC C' ls+(if chp'=true then 1 else 0)).toNat:Int):=by
    have h1:=sumC_nn (C:=C') (n:=ls) (fun v hv=>h.out.inv.bound h60 hv)
    have h2:=HZ.out.2.2.2.2.2.2
    cases chp' with
    | false =>
     have h3:=(h.out.no rfl).1
     rw [h3] at h1 ⊢
     simp at h2 ⊢
     omega
    | true =>
     have h3:=h.out.yes rfl
     simp at h2 ⊢
     omega
   have hmk:(D :: Ds).Nodup∧∀ E∈D :: Ds,w.heap.size≤E∧(W.alloc (.cells #[.bool chp'] 4)).heap[E]?=some (.deferred (some [])):=by
    refine ⟨List.nodup_cons.2 ⟨fun q=>by have:=(h.out.marks D q).1; omega,HZ.out.2.2.2.1⟩,fun E hE=>?_⟩
    rcases List.mem_cons.1 hE with rfl | hE
    ·exact ⟨by omega,(Below.heap_alloc _ _ _ (Ja.1 hKD).1).trans hKD⟩
    ·obtain ⟨h1,h2,h3⟩:=h.out.marks E hE
     exact ⟨h2,(Below.heap_alloc _ _ _ (Ja.1 h3).1).trans h3⟩
   have HE:=hid (Jc hmem (Jc h.out.inv (Jc h.out.neg (Jc hmk.1 (Jc hmk.2 (Jc (Jc hsv hrn) hms))))))
   clear h hmem hmk hsv hrn hms hKD
   gi_wp2_with fail
   refine ⟨_,HE.out.2.2.2.2.2.2.1,hJ _ _ _ ⟨W.heap.size,chp',C',L',D :: Ds,_,_,_,_,_,rfl,(show _∧_ from ⟨HE.out.1,HE.out.2.1,HE.out.2.2.1,HE.out.2.2.2.1,HE.out.2.2.2.2.1,HE.out.2.2.2.2.2.1,HE.out.2.2.2.2.2.2.2⟩)⟩⟩
  case stop =>
   rintro D c pre W hD hpre ⟨v,l,x,⟨rfl,hst⟩,h⟩ hKD
   gi_wp2
   have hdm:∀ E∈D :: Ds,W.heap[E]?=some (.deferred (some [])):=fun E hE=>by
    rcases List.mem_cons.1 hE with rfl | hE
    ·exact hKD
    ·exact (h.out.marks E hE).2.2
   have hwd:∀ E∈D :: Ds,w.heap.size≤E:=fun E hE=>by
    rcases List.mem_cons.1 hE with rfl | hE
    ·omega
    ·exact (h.out.marks E hE).2.1
   refine leaves_marks (D :: Ds) W (List.nodup_cons.2 ⟨fun q=>by have:=(h.out.marks D q).1; omega,HZ.out.2.2.2.1⟩) hdm (fun W' hW hs ho ht hp=>?_)
   have mv:∀ {b:Nat} {cs:Array Value} {t:TypeId},W.heap[b]?=some (Obj.cells cs t)→W'.heap[b]?=some (Obj.cells cs t):=fun {b cs t} e=>(hW b (fun q=>by have h1:=hdm b q; rw [e] at h1; cases h1)).trans e
   have c4:Boxed W' (w.heap.size+1) 95 v:=mv h.out.ra
   have c5:Boxed W' (w.heap.size+1+1) 22 (.slice none 0 0):=mv h.out.rb
   have c4c:=c4.cell
   have c5c:=c5.cell
   have hrow:ORow w.heap.size W' v l:=by
    refine ⟨h.out.row.1,?_⟩
    rcases h.out.row.2 with q | ⟨g,cap,cur,e,e0,hgc,q⟩
    ·exact Jr q
    ·exact Js ⟨g,cap,cur,e,e0,mv hgc,q⟩
   obtain ⟨pv,cv,hv⟩:=hrow.sl
   subst hv
   refine ⟨.tuple #[.slice pv l.length cv,.slice none 0 0],by simp [results,Try.f42,go_sem,c4c,c5c],⟨ho.trans h.out.below.os,ht.trans h.out.below.tape,hp.trans h.out.below.output,by rw [hs]; exact h.out.below.size,fun k hk=>?_⟩,Jr ⟨_,l,x,rfl,hrow,h.out.ne,h.out.opn,h.out.walk,h.out.nod,h.out.sum,HZ.out.2.2.2.2.2.1.2.found (hst _ hpre)⟩⟩
   rw [hW k (fun q=>by have:=hwd k q; omega)]
   exact h.out.below.block k hk
end
end Go.Proofs.Ytjdindfjfpdikab
