/-
  No cell of these rows narrows 'for every input' (looked for: loops, veiled, ifaces, maps, wideKeys, modest, calm, conditions, laid).
  DERIVED. THE GIVEN ROWS OF THIS SEAT. 6 by the template 'for every input the law returns true; each argument reads behind the call as it read before'; 0 by the template 'total and deterministic' (their statements: YtjdindfjfpdikaaTotals.lean).
  GIVEN WITH THE SEED: the statements are not yours to turn. If you find one false, say at which input.
  Laid BY PROGRAM, IN A SANDBOX (cutbox-rows.mjs): the forced cells as the released guide's own fill.sh prints them over the translation dd3db1f9bec82478… (all of the seat's roots in one cut). By AI agents, Wed Nov 11 2026. No macro, syntax, notation, axiom, sorry.
-/
import Derived.Test.YtjdindfjfpdikaaChecked
import GoSem.Claim
import GoSem.ClaimJoined
import GoSem.ClaimMapViews
import Derived.JoinedTies
import Derived.KernelRfl
namespace Go.Proofs.Ytjdindfjfpdikaa
/- THE CELL 'sum', in the pinned program and in every row, IS THE sha256 OF THE DUMP (.gsa) THAT YtjdindfjfpdikaaProg.lean LOADS. Nothing in Lean hashes anything: it is a label: what it is worth is what the hold of that sum in a sandbox is worth. -/
noncomputable def Try.pinned : Pinned := { name := "ytjdindfjfpdikaa", sum := "dd3db1f9bec82478b6ecfc600b505689e4c0d1c0eafe1490c59bb139b8b40330", checked := Try.checked }
namespace Rows
def none {H : Type} : Left H := { results := [], args := [] }

/-- 'assignkeep.Told': WHATEVER THE INPUT: true; the input reads as it did. -/
def toldSpec : ChangeSpec := { name := "told", fn := fun _ => fun
  | [d1, d2, d3, d4, d5] => { results := [.lit (.bool true)], args := [d1, d2, d3, d4, d5] }
  | _ => none }
def toldRow : OpenClaim := { program := "ytjdindfjfpdikaa", sum := "dd3db1f9bec82478b6ecfc600b505689e4c0d1c0eafe1490c59bb139b8b40330", func := "assign/assignkeep.Told", spec := "told", unfollowed := true, recurses := true, plainKeys := false, apart := false }
def ToldSaid : Prop := toldRow.holds Try.pinned (OpenSpec.ofChange toldSpec)

/-- ITS FALSE NEIGHBOUR: 'it returns false'. Refute it at one input. -/
def toldWrong : ChangeSpec := { name := "told", fn := fun _ => fun
  | [d1, d2, d3, d4, d5] => { results := [.lit (.bool false)], args := [d1, d2, d3, d4, d5] }
  | _ => none }
def ToldWrongFalsely : Prop := toldRow.holds Try.pinned (OpenSpec.ofChange toldWrong)

/-- 'assignkeep.Certain': WHATEVER THE INPUT: true; the input reads as it did. -/
def certainSpec : ChangeSpec := { name := "certain", fn := fun _ => fun
  | [d] => { results := [.lit (.bool true)], args := [d] }
  | _ => none }
def certainRow : OpenClaim := { program := "ytjdindfjfpdikaa", sum := "dd3db1f9bec82478b6ecfc600b505689e4c0d1c0eafe1490c59bb139b8b40330", func := "assign/assignkeep.Certain", spec := "certain", unfollowed := true, recurses := true, plainKeys := false, apart := false }
def CertainSaid : Prop := certainRow.holds Try.pinned (OpenSpec.ofChange certainSpec)

/-- ITS FALSE NEIGHBOUR: 'it returns false'. Refute it at one input. -/
def certainWrong : ChangeSpec := { name := "certain", fn := fun _ => fun
  | [d] => { results := [.lit (.bool false)], args := [d] }
  | _ => none }
def CertainWrongFalsely : Prop := certainRow.holds Try.pinned (OpenSpec.ofChange certainWrong)

/-- 'assignkeep.Best': WHATEVER THE INPUT: true; the input reads as it did. -/
def bestSpec : ChangeSpec := { name := "best", fn := fun _ => fun
  | [d1, d2, d3] => { results := [.lit (.bool true)], args := [d1, d2, d3] }
  | _ => none }
def bestRow : OpenClaim := { program := "ytjdindfjfpdikaa", sum := "dd3db1f9bec82478b6ecfc600b505689e4c0d1c0eafe1490c59bb139b8b40330", func := "assign/assignkeep.Best", spec := "best", unfollowed := true, recurses := true, plainKeys := false, apart := false }
def BestSaid : Prop := bestRow.holds Try.pinned (OpenSpec.ofChange bestSpec)

/-- ITS FALSE NEIGHBOUR: 'it returns false'. Refute it at one input. -/
def bestWrong : ChangeSpec := { name := "best", fn := fun _ => fun
  | [d1, d2, d3] => { results := [.lit (.bool false)], args := [d1, d2, d3] }
  | _ => none }
def BestWrongFalsely : Prop := bestRow.holds Try.pinned (OpenSpec.ofChange bestWrong)

/-- 'assignkeep.Still': WHATEVER THE INPUT: true; the input reads as it did. -/
def stillSpec : ChangeSpec := { name := "still", fn := fun _ => fun
  | [d] => { results := [.lit (.bool true)], args := [d] }
  | _ => none }
def stillRow : OpenClaim := { program := "ytjdindfjfpdikaa", sum := "dd3db1f9bec82478b6ecfc600b505689e4c0d1c0eafe1490c59bb139b8b40330", func := "assign/assignkeep.Still", spec := "still", unfollowed := true, recurses := true, plainKeys := false, apart := false }
def StillSaid : Prop := stillRow.holds Try.pinned (OpenSpec.ofChange stillSpec)

/-- ITS FALSE NEIGHBOUR: 'it returns false'. Refute it at one input. -/
def stillWrong : ChangeSpec := { name := "still", fn := fun _ => fun
  | [d] => { results := [.lit (.bool false)], args := [d] }
  | _ => none }
def StillWrongFalsely : Prop := stillRow.holds Try.pinned (OpenSpec.ofChange stillWrong)

/-- 'assignkeep.More': WHATEVER THE INPUT: true; the input reads as it did. -/
def moreSpec : ChangeSpec := { name := "more", fn := fun _ => fun
  | [d1, d2, d3, d4] => { results := [.lit (.bool true)], args := [d1, d2, d3, d4] }
  | _ => none }
def moreRow : OpenClaim := { program := "ytjdindfjfpdikaa", sum := "dd3db1f9bec82478b6ecfc600b505689e4c0d1c0eafe1490c59bb139b8b40330", func := "assign/assignkeep.More", spec := "more", unfollowed := true, recurses := true, plainKeys := false, apart := false }
def MoreSaid : Prop := moreRow.holds Try.pinned (OpenSpec.ofChange moreSpec)

/-- ITS FALSE NEIGHBOUR: 'it returns false'. Refute it at one input. -/
def moreWrong : ChangeSpec := { name := "more", fn := fun _ => fun
  | [d1, d2, d3, d4] => { results := [.lit (.bool false)], args := [d1, d2, d3, d4] }
  | _ => none }
def MoreWrongFalsely : Prop := moreRow.holds Try.pinned (OpenSpec.ofChange moreWrong)

/-- 'assignkeep.Renamed': WHATEVER THE INPUT: true; the input reads as it did. -/
def renamedSpec : ChangeSpec := { name := "renamed", fn := fun _ => fun
  | [d1, d2] => { results := [.lit (.bool true)], args := [d1, d2] }
  | _ => none }
def renamedRow : OpenClaim := { program := "ytjdindfjfpdikaa", sum := "dd3db1f9bec82478b6ecfc600b505689e4c0d1c0eafe1490c59bb139b8b40330", func := "assign/assignkeep.Renamed", spec := "renamed", unfollowed := true, recurses := true, plainKeys := false, apart := false }
def RenamedSaid : Prop := renamedRow.holds Try.pinned (OpenSpec.ofChange renamedSpec)

/-- ITS FALSE NEIGHBOUR: 'it returns false'. Refute it at one input. -/
def renamedWrong : ChangeSpec := { name := "renamed", fn := fun _ => fun
  | [d1, d2] => { results := [.lit (.bool false)], args := [d1, d2] }
  | _ => none }
def RenamedWrongFalsely : Prop := renamedRow.holds Try.pinned (OpenSpec.ofChange renamedWrong)

/- THE SECOND FORM. 'bulk': how many values and letters a reading holds, each counted each time it is reached (what is shared counts as often as it is met; a slice's spare places count too). A statement '..UptoSaid' is the law's where the arguments, and the package variables that the reading takes, are together of bulk at most 1048576: NARROWER than '..Said'. Prove '..Said' where nothing that the law and all that it calls make is longer than what came in: it says more and counts as full. Else prove '..UptoSaid'. A law counts once. -/
mutual
def uptoBulk {H : Type} : DataW H → Nat
  | .lit (.string bytes) => bytes.length + 1
  | .lit _ => 1
  | .nil => 1
  | .ptr d => uptoBulk d + 1
  | .slice elems spare => uptoBulkAll elems + uptoBulkAll spare + 1
  | .agg parts => uptoBulkAll parts + 1
  | .iface _ d => uptoBulk d + 1
  | .map entries => uptoBulkEntries entries + 1
  | .held _ => 1
def uptoBulkAll {H : Type} : List (DataW H) → Nat
  | [] => 0
  | d :: r => uptoBulk d + uptoBulkAll r
def uptoBulkEntries {H : Type} : List (Lit × DataW H) → Nat
  | [] => 0
  | x :: r => uptoBulkEntry x + uptoBulkEntries r
def uptoBulkEntry {H : Type} : Lit × DataW H → Nat
  | (.string bytes, d) => bytes.length + uptoBulk d + 1
  | (_, d) => uptoBulk d + 1
 end
def uptoSmall : (H : Type) → List (DataW H) → Bool := fun _ ds => decide (uptoBulkAll ds ≤ 1048576)
def OpenSpec.upto (s : _root_.Go.ChangeSpec) : _root_.Go.OpenSpec := { _root_.Go.OpenSpec.ofChange s with cond := some uptoSmall }

/-- 'assignkeep.Told', WHERE WHAT IT READS IS OF BULK AT MOST 1048576: true; the input reads as it did. -/
def toldUptoRow : OpenClaim := { program := "ytjdindfjfpdikaa", sum := "dd3db1f9bec82478b6ecfc600b505689e4c0d1c0eafe1490c59bb139b8b40330", func := "assign/assignkeep.Told", spec := "told", unfollowed := true, recurses := true, plainKeys := false, apart := false, narrowed := true }
def ToldUptoSaid : Prop := toldUptoRow.holds Try.pinned (OpenSpec.upto toldSpec)

/-- 'assignkeep.Certain', WHERE WHAT IT READS IS OF BULK AT MOST 1048576: true; the input reads as it did. -/
def certainUptoRow : OpenClaim := { program := "ytjdindfjfpdikaa", sum := "dd3db1f9bec82478b6ecfc600b505689e4c0d1c0eafe1490c59bb139b8b40330", func := "assign/assignkeep.Certain", spec := "certain", unfollowed := true, recurses := true, plainKeys := false, apart := false, narrowed := true }
def CertainUptoSaid : Prop := certainUptoRow.holds Try.pinned (OpenSpec.upto certainSpec)

/-- 'assignkeep.Best', WHERE WHAT IT READS IS OF BULK AT MOST 1048576: true; the input reads as it did. -/
def bestUptoRow : OpenClaim := { program := "ytjdindfjfpdikaa", sum := "dd3db1f9bec82478b6ecfc600b505689e4c0d1c0eafe1490c59bb139b8b40330", func := "assign/assignkeep.Best", spec := "best", unfollowed := true, recurses := true, plainKeys := false, apart := false, narrowed := true }
def BestUptoSaid : Prop := bestUptoRow.holds Try.pinned (OpenSpec.upto bestSpec)

/-- 'assignkeep.Still', WHERE WHAT IT READS IS OF BULK AT MOST 1048576: true; the input reads as it did. -/
def stillUptoRow : OpenClaim := { program := "ytjdindfjfpdikaa", sum := "dd3db1f9bec82478b6ecfc600b505689e4c0d1c0eafe1490c59bb139b8b40330", func := "assign/assignkeep.Still", spec := "still", unfollowed := true, recurses := true, plainKeys := false, apart := false, narrowed := true }
def StillUptoSaid : Prop := stillUptoRow.holds Try.pinned (OpenSpec.upto stillSpec)

/-- 'assignkeep.More', WHERE WHAT IT READS IS OF BULK AT MOST 1048576: true; the input reads as it did. -/
def moreUptoRow : OpenClaim := { program := "ytjdindfjfpdikaa", sum := "dd3db1f9bec82478b6ecfc600b505689e4c0d1c0eafe1490c59bb139b8b40330", func := "assign/assignkeep.More", spec := "more", unfollowed := true, recurses := true, plainKeys := false, apart := false, narrowed := true }
def MoreUptoSaid : Prop := moreUptoRow.holds Try.pinned (OpenSpec.upto moreSpec)

/-- 'assignkeep.Renamed', WHERE WHAT IT READS IS OF BULK AT MOST 1048576: true; the input reads as it did. -/
def renamedUptoRow : OpenClaim := { program := "ytjdindfjfpdikaa", sum := "dd3db1f9bec82478b6ecfc600b505689e4c0d1c0eafe1490c59bb139b8b40330", func := "assign/assignkeep.Renamed", spec := "renamed", unfollowed := true, recurses := true, plainKeys := false, apart := false, narrowed := true }
def RenamedUptoSaid : Prop := renamedUptoRow.holds Try.pinned (OpenSpec.upto renamedSpec)

end Rows
end Go.Proofs.Ytjdindfjfpdikaa
