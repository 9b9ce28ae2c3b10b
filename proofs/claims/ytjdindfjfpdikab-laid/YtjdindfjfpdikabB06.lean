import Derived.Test.YtjdindfjfpdikabShelf
import Derived.Shelf.SlSortCmp.NoneTotal
import Derived.Test.YtjdindfjfpdikabB01
import Derived.Test.YtjdindfjfpdikabPre
set_option maxRecDepth 100000
set_option maxHeartbeats 8000000
namespace Go.Proofs.Ytjdindfjfpdikab
section
open Go.Shelf Go.Lib Go.Sort
open Go.RowKit (Hid)
def encT (x:Int×Int):List Value:=[.int .i64 x.1,.int .i64 x.2]
def cfT (x y:Int×Int):Int:=cmpOf x.2 y.2
theorem flatK_eq (xs:List (Int×Int)):flatK encT 2 xs.toArray=(flat xs).toArray:=by
 refine ext_get! (by simp [flat_length]) fun t ht=>?_
 have ht':t<xs.length*2:=by simpa using ht
 rw [get_flatK _ _ _ t (by simpa using ht')]
 have hq:t / 2<xs.length:=by omega
 have e:=flat_at xs (t / 2) hq
 have hx:xs.toArray[t / 2]! = xs[t / 2]:=by simp [hq]
 rw [hx]
 rcases Nat.mod_two_eq_zero_or_one t with h | h
 ·have ht2:t / 2*2=t:=by omega
  rw [ht2] at e
  simp [h,encT,e.1]
 ·have ht2:t / 2*2+1=t:=by omega
  rw [ht2] at e
  simp [h,encT,e.2]
theorem ltT (x y:Int×Int):ltOf cfT x y=decide (x.2<y.2):=by
 unfold ltOf cfT cmpOf
 by_cases h1:x.2<y.2
 ·simp [h1]
 ·by_cases h2:y.2<x.2 <;> simp [h1,h2]
theorem swoT:SWO (ltOf cfT) where
 irrefl x:=by rw [ltT]; simp
 trans x y z h1 h2:=by rw [ltT] at *; simp at *; omega
 ntrans x y z h1 h2:=by rw [ltT] at *; simp at *; omega
theorem closure48 (x y:Int×Int)(W:World):Calls Try.prog 44 #[.agg #[.int .i64 x.1,.int .i64 x.2],.agg #[.int .i64 y.1,.int .i64 y.2]] W fun e w'=>e=.returned (.int .i64 (cfT x y))∧∃ q os',w'=grow (W.drewN q) os':=by
 have hcon:=fun W'=>compare_any x.2 y.2 W'
 unfold cfT
 generalize cmpOf x.2 y.2=r at hcon ⊢
 have Hc:=hid hcon
 clear hcon
 go_enter Try.func44,Try.ntmps44
 go_wp2_with (go_at_call 45; refine (Hc.out _).mono ?_; rintro e w' ⟨rfl,rfl⟩)
 go_ret
 exact ⟨rfl,0,_,by rw [alloc_eq_grow,alloc_eq_grow,grow_grow]; rfl⟩
theorem cmpLays48 (blk off size:Nat)(w:World):CmpLays Try.prog 44 #[] encT 2 cfT blk off size w :=
 fun _ _ _ _ x y=>closure48 x y _
theorem isAgg79 (w:World):(isAgg 79).run Try.prog w=.ok true w:=by kernel_rfl
theorem sizeOf79 (w:World):(Go.sizeOf 79).run Try.prog w=.ok 2 w:=by kernel_rfl
theorem heap_put {w:World}{g n:Nat}{os:Array Obj}{cur:Array Value}{e:TypeId}{fr:Nat×Nat}(d:Array Value)(hb:w.heap[g]?=some (.cells cur e fr)) :
  (grow (putRow id (Sort.ahead w n) g 0 d) os).heap[g]?=some (.cells (putCells id 0 d cur) e fr):=by
 have hg:g<w.heap.size:=(Ja.1 hb).1
 rw [heap_grow_old _ _ (by simpa using hg)]
 simp [putRow,mapBlock,Sort.ahead,Array.getElem?_modify,hb,onCells]
theorem grown_put {w:World}{g n:Nat}{os:Array Obj}(d:Array Value):w.grownBy (grow (putRow id (Sort.ahead w n) g 0 d) os) (some g):=by
 refine ⟨rfl,rfl,rfl,by simp,fun k hk hne=>?_⟩
 rw [heap_grow_old _ _ (by simpa using hk)]
 have:g≠k:=fun e=>hne (by rw [e])
 simp [putRow,mapBlock,Sort.ahead,Array.getElem?_modify,this]
theorem take_put (cur:Array Value)(ts:List Value)(h:ts.length≤cur.size):(putCells id 0 ts.toArray cur).toList.take ts.length=ts:=by
 apply List.ext_getElem?
 intro j
 by_cases hj:j<ts.length
 ·rw [List.getElem?_take_of_lt hj,Array.getElem?_toList]
  simp [putCells,hj,show j<cur.size by omega]
 ·rw [List.getElem?_take_eq_none (by omega),List.getElem?_eq_none (by omega)]
theorem sortSaid:SortSaid:=by
 intro w base v xs hrow hlen
 have hfl:=flat_length xs
 rcases hrow.2 with ⟨rfl,hn⟩ | ⟨g,cap,cur,rfl,hbase,hb,h1,h2,h3,h4⟩
 ·obtain rfl:xs=[]:=List.eq_nil_of_length_eq_zero hn
  have hcon:=AnyF.slices_SortFunc_none { Try.sortT with } none 0 (.func (.func 44) #[] #[]) w
  change Calls Try.prog 43 _ _ _ at hcon
  refine hcon.mono fun e w' ⟨he,hw⟩=>?_
  subst hw
  exact ⟨he,[],List.Perm.refl _,hrow,⟨rfl,rfl,rfl,Jb _,fun _ _ _=>rfl⟩,List.Pairwise.nil⟩
 ·have eg:∀ args w,(callFunc 44 args).run Try.prog w=.ok (.enter 44 args) w:=enters_of Try.func44 (by kernel_rfl) rfl
  have hg:g<w.heap.size:=(Ja.1 hb).1
  have hH:HoldsK encT 2 w g 0 xs.toArray:=by
   unfold HoldsK
   rw [flatK_eq]
   intro j hj
   have hj':j<(flat xs).length:=by simpa using hj
   refine ⟨?_,by simp [World.frozen?,hb]⟩
   have e1:(cur.toList.take (xs.length*2))[j]?=(flat xs)[j]?:=by rw [h4]
   rw [List.getElem?_take_of_lt (by omega)] at e1
   simp only [World.cell?,hb,Nat.zero_add]
   simp only [Option.isSome_none,Bool.false_eq_true,if_false]
   rw [← Array.getElem?_toList,e1]
   simp [hj']
  have hcon:=AnyQ.slices_SortFunc Try.sortT 2 isAgg79 sizeOf79 encT (fun _=>rfl) (fun x v hv=>by simp [encT] at hv; rcases hv with rfl | rfl <;> rfl) cfT swoT 44 #[] g 0 cap xs.toArray w eg (cmpLays48 g 0 xs.toArray.size w) hH hg (by simp; omega)
  change Calls Try.prog 43 _ _ _ at hcon
  rw [List.size_toArray] at hcon
  refine hcon.mono fun e w' ⟨he,d',n,os,hp,hs,hw⟩=>?_
  subst hw
  obtain ⟨hp1,_,hp3⟩:=hp
  have hsz:d'.size=xs.length:=by simpa using hp1
  have hd:d'=d'.toList.toArray:=by simp
  refine ⟨he,d'.toList,?_,?_,?_,?_⟩
  ·have:d'.extract 0 xs.length=d':=by rw [← hsz]; simp
   rw [this] at hp3
   simpa using hp3
  ·have hlen':d'.toList.length=xs.length:=by simpa using hsz
   unfold sortWorldK putRowK
   have e1:flatK encT 2 d'=(flat d'.toList).toArray:=by rw [← flatK_eq]
   rw [e1,hlen']
   have hfl':=flat_length d'.toList
   refine ⟨by rw [hfl',hlen'],.inr ⟨g,cap,_,rfl,hbase,heap_put _ hb,h1,h2,by simp [putCells,h3],?_⟩⟩
   have h5:xs.length*2≤cap*2:=Nat.mul_le_mul_right 2 h1
   have:=take_put cur (flat d'.toList) (by omega)
   rwa [hfl',hlen'] at this
  ·exact grown_put _
  ·refine List.pairwise_iff_getElem.2 (fun i j hi hj hij=>?_)
   have hi':i<d'.size:=by simpa using hi
   have hj':j<d'.size:=by simpa using hj
   have q:=hs i j (Jq _) hij (by simpa using (by omega:j<xs.length))
   rw [ltT] at q
   simp only [hi',hj',getElem!_pos] at q
   simp only [Array.getElem_toList]
   simpa using q
end
end Go.Proofs.Ytjdindfjfpdikab
