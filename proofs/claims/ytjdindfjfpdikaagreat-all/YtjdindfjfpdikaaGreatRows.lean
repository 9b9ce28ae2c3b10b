/-
  No cell of these rows narrows 'for every input' (looked for: loops, veiled, ifaces, maps, wideKeys, modest, calm, conditions, laid).
  DERIVED. THE GIVEN ROWS OF THIS SEAT. 6 by the template 'for every input the law returns true; each argument reads behind the call as it read before'; 0 by the template 'total and deterministic' (their statements: YtjdindfjfpdikaaGreatTotals.lean).
  GIVEN WITH THE SEED: the statements are not yours to turn. If you find one false, say at which input.
  Laid BY PROGRAM, IN A SANDBOX (cutbox-rows.mjs): the forced cells as the released guide's own fill.sh prints them over the translation 5cae7291a423fd49… (all of the seat's roots in one cut). By AI agents, Wed Nov 11 2026. No macro, syntax, notation, axiom, sorry.
-/
import Derived.Test.YtjdindfjfpdikaaGreatChecked
import GoSem.Claim
import GoSem.ClaimJoined
import GoSem.ClaimMapViews
import Derived.JoinedTies
import Derived.KernelRfl
namespace Go.Proofs.YtjdindfjfpdikaaGreat
/- THE CELL 'sum', in the pinned program and in every row, IS THE sha256 OF THE DUMP (.gsa) THAT YtjdindfjfpdikaaGreatProg.lean LOADS. Nothing in Lean hashes anything: it is a label: what it is worth is what the hold of that sum in a sandbox is worth. -/
noncomputable def Tryz.pinned : Pinned := { name := "ytjdindfjfpdikaagreat", sum := "5cae7291a423fd4984853d214e56f7b2820a6750364f5474b1957beeeb486b02", checked := Tryz.checked }
namespace Rows
def none {H : Type} : Left H := { results := [], args := [] }

/-- 'assignlaw.Built': WHATEVER THE INPUT: true; the input reads as it did. -/
def builtSpec : ChangeSpec := { name := "built", fn := fun _ => fun
  | [d] => { results := [.lit (.bool true)], args := [d] }
  | _ => none }
def builtRow : OpenClaim := { program := "ytjdindfjfpdikaagreat", sum := "5cae7291a423fd4984853d214e56f7b2820a6750364f5474b1957beeeb486b02", func := "assign/assignlaw.Built", spec := "built", unfollowed := true, recurses := true, plainKeys := false, apart := false }
def BuiltSaid : Prop := builtRow.holds Tryz.pinned (OpenSpec.ofChange builtSpec)

/-- ITS FALSE NEIGHBOUR: 'it returns false'. Refute it at one input. -/
def builtWrong : ChangeSpec := { name := "built", fn := fun _ => fun
  | [d] => { results := [.lit (.bool false)], args := [d] }
  | _ => none }
def BuiltWrongFalsely : Prop := builtRow.holds Tryz.pinned (OpenSpec.ofChange builtWrong)

/-- 'assignlaw.Priced': WHATEVER THE INPUT: true; the input reads as it did. -/
def pricedSpec : ChangeSpec := { name := "priced", fn := fun _ => fun
  | [d] => { results := [.lit (.bool true)], args := [d] }
  | _ => none }
def pricedRow : OpenClaim := { program := "ytjdindfjfpdikaagreat", sum := "5cae7291a423fd4984853d214e56f7b2820a6750364f5474b1957beeeb486b02", func := "assign/assignlaw.Priced", spec := "priced", unfollowed := true, recurses := true, plainKeys := false, apart := false }
def PricedSaid : Prop := pricedRow.holds Tryz.pinned (OpenSpec.ofChange pricedSpec)

/-- ITS FALSE NEIGHBOUR: 'it returns false'. Refute it at one input. -/
def pricedWrong : ChangeSpec := { name := "priced", fn := fun _ => fun
  | [d] => { results := [.lit (.bool false)], args := [d] }
  | _ => none }
def PricedWrongFalsely : Prop := pricedRow.holds Tryz.pinned (OpenSpec.ofChange pricedWrong)

/-- 'assignlaw.Checked': WHATEVER THE INPUT: true; the input reads as it did. -/
def checkedSpec : ChangeSpec := { name := "checked", fn := fun _ => fun
  | [d] => { results := [.lit (.bool true)], args := [d] }
  | _ => none }
def checkedRow : OpenClaim := { program := "ytjdindfjfpdikaagreat", sum := "5cae7291a423fd4984853d214e56f7b2820a6750364f5474b1957beeeb486b02", func := "assign/assignlaw.Checked", spec := "checked", unfollowed := true, recurses := true, plainKeys := false, apart := false }
def CheckedSaid : Prop := checkedRow.holds Tryz.pinned (OpenSpec.ofChange checkedSpec)

/-- ITS FALSE NEIGHBOUR: 'it returns false'. Refute it at one input. -/
def checkedWrong : ChangeSpec := { name := "checked", fn := fun _ => fun
  | [d] => { results := [.lit (.bool false)], args := [d] }
  | _ => none }
def CheckedWrongFalsely : Prop := checkedRow.holds Tryz.pinned (OpenSpec.ofChange checkedWrong)

/-- 'assignlaw.Solved': WHATEVER THE INPUT: true; the input reads as it did. -/
def solvedSpec : ChangeSpec := { name := "solved", fn := fun _ => fun
  | [d] => { results := [.lit (.bool true)], args := [d] }
  | _ => none }
def solvedRow : OpenClaim := { program := "ytjdindfjfpdikaagreat", sum := "5cae7291a423fd4984853d214e56f7b2820a6750364f5474b1957beeeb486b02", func := "assign/assignlaw.Solved", spec := "solved", unfollowed := true, recurses := true, plainKeys := false, apart := false }
def SolvedSaid : Prop := solvedRow.holds Tryz.pinned (OpenSpec.ofChange solvedSpec)

/-- ITS FALSE NEIGHBOUR: 'it returns false'. Refute it at one input. -/
def solvedWrong : ChangeSpec := { name := "solved", fn := fun _ => fun
  | [d] => { results := [.lit (.bool false)], args := [d] }
  | _ => none }
def SolvedWrongFalsely : Prop := solvedRow.holds Tryz.pinned (OpenSpec.ofChange solvedWrong)

/-- 'assignlaw.Shown': WHATEVER THE INPUT: true; the input reads as it did. -/
def shownSpec : ChangeSpec := { name := "shown", fn := fun _ => fun
  | [d] => { results := [.lit (.bool true)], args := [d] }
  | _ => none }
def shownRow : OpenClaim := { program := "ytjdindfjfpdikaagreat", sum := "5cae7291a423fd4984853d214e56f7b2820a6750364f5474b1957beeeb486b02", func := "assign/assignlaw.Shown", spec := "shown", unfollowed := true, recurses := true, plainKeys := false, apart := false }
def ShownSaid : Prop := shownRow.holds Tryz.pinned (OpenSpec.ofChange shownSpec)

/-- ITS FALSE NEIGHBOUR: 'it returns false'. Refute it at one input. -/
def shownWrong : ChangeSpec := { name := "shown", fn := fun _ => fun
  | [d] => { results := [.lit (.bool false)], args := [d] }
  | _ => none }
def ShownWrongFalsely : Prop := shownRow.holds Tryz.pinned (OpenSpec.ofChange shownWrong)

/-- 'assignlaw.All': WHATEVER THE INPUT: true; the input reads as it did. -/
def allSpec : ChangeSpec := { name := "all", fn := fun _ => fun
  | [d] => { results := [.lit (.bool true)], args := [d] }
  | _ => none }
def allRow : OpenClaim := { program := "ytjdindfjfpdikaagreat", sum := "5cae7291a423fd4984853d214e56f7b2820a6750364f5474b1957beeeb486b02", func := "assign/assignlaw.All", spec := "all", unfollowed := true, recurses := true, plainKeys := false, apart := false }
def AllSaid : Prop := allRow.holds Tryz.pinned (OpenSpec.ofChange allSpec)

/-- ITS FALSE NEIGHBOUR: 'it returns false'. Refute it at one input. -/
def allWrong : ChangeSpec := { name := "all", fn := fun _ => fun
  | [d] => { results := [.lit (.bool false)], args := [d] }
  | _ => none }
def AllWrongFalsely : Prop := allRow.holds Tryz.pinned (OpenSpec.ofChange allWrong)

/- THE SECOND FORM. 'bulk': how many values and letters a reading holds, each counted each time it is reached (what is shared counts as often as it is met; a slice's spare places count too). A statement '..UptoSaid' is the law's where the arguments, and the package variables that the reading takes, are together of bulk at most 1048576: NARROWER than '..Said'. Prove '..Said' where nothing that the law and all that it calls make is longer than what came in: it says more and counts as full. Else prove '..UptoSaid'. A law counts once. -/
mutual
def uptoBulk {H : Type} : DataW H → Nat
  | .lit (.string bytes) => bytes.length + 1
  | .lit _ => 1
  | .nil => 1
  | .ptr d => uptoBulk d + 1
  | .slice elems spare => uptoBulkAll elems + uptoBulkAll spare + 1
  | .agg parts => uptoBulkAll parts + 1
  | .iface _ d => uptoBulk d + 1
  | .map entries => uptoBulkEntries entries + 1
  | .held _ => 1
def uptoBulkAll {H : Type} : List (DataW H) → Nat
  | [] => 0
  | d :: r => uptoBulk d + uptoBulkAll r
def uptoBulkEntries {H : Type} : List (Lit × DataW H) → Nat
  | [] => 0
  | x :: r => uptoBulkEntry x + uptoBulkEntries r
def uptoBulkEntry {H : Type} : Lit × DataW H → Nat
  | (.string bytes, d) => bytes.length + uptoBulk d + 1
  | (_, d) => uptoBulk d + 1
 end
def uptoSmall : (H : Type) → List (DataW H) → Bool := fun _ ds => decide (uptoBulkAll ds ≤ 1048576)
def OpenSpec.upto (s : _root_.Go.ChangeSpec) : _root_.Go.OpenSpec := { _root_.Go.OpenSpec.ofChange s with cond := some uptoSmall }

/-- 'assignlaw.Built', WHERE WHAT IT READS IS OF BULK AT MOST 1048576: true; the input reads as it did. -/
def builtUptoRow : OpenClaim := { program := "ytjdindfjfpdikaagreat", sum := "5cae7291a423fd4984853d214e56f7b2820a6750364f5474b1957beeeb486b02", func := "assign/assignlaw.Built", spec := "built", unfollowed := true, recurses := true, plainKeys := false, apart := false, narrowed := true }
def BuiltUptoSaid : Prop := builtUptoRow.holds Tryz.pinned (OpenSpec.upto builtSpec)

/-- 'assignlaw.Priced', WHERE WHAT IT READS IS OF BULK AT MOST 1048576: true; the input reads as it did. -/
def pricedUptoRow : OpenClaim := { program := "ytjdindfjfpdikaagreat", sum := "5cae7291a423fd4984853d214e56f7b2820a6750364f5474b1957beeeb486b02", func := "assign/assignlaw.Priced", spec := "priced", unfollowed := true, recurses := true, plainKeys := false, apart := false, narrowed := true }
def PricedUptoSaid : Prop := pricedUptoRow.holds Tryz.pinned (OpenSpec.upto pricedSpec)

/-- 'assignlaw.Checked', WHERE WHAT IT READS IS OF BULK AT MOST 1048576: true; the input reads as it did. -/
def checkedUptoRow : OpenClaim := { program := "ytjdindfjfpdikaagreat", sum := "5cae7291a423fd4984853d214e56f7b2820a6750364f5474b1957beeeb486b02", func := "assign/assignlaw.Checked", spec := "checked", unfollowed := true, recurses := true, plainKeys := false, apart := false, narrowed := true }
def CheckedUptoSaid : Prop := checkedUptoRow.holds Tryz.pinned (OpenSpec.upto checkedSpec)

/-- 'assignlaw.Solved', WHERE WHAT IT READS IS OF BULK AT MOST 1048576: true; the input reads as it did. -/
def solvedUptoRow : OpenClaim := { program := "ytjdindfjfpdikaagreat", sum := "5cae7291a423fd4984853d214e56f7b2820a6750364f5474b1957beeeb486b02", func := "assign/assignlaw.Solved", spec := "solved", unfollowed := true, recurses := true, plainKeys := false, apart := false, narrowed := true }
def SolvedUptoSaid : Prop := solvedUptoRow.holds Tryz.pinned (OpenSpec.upto solvedSpec)

/-- 'assignlaw.Shown', WHERE WHAT IT READS IS OF BULK AT MOST 1048576: true; the input reads as it did. -/
def shownUptoRow : OpenClaim := { program := "ytjdindfjfpdikaagreat", sum := "5cae7291a423fd4984853d214e56f7b2820a6750364f5474b1957beeeb486b02", func := "assign/assignlaw.Shown", spec := "shown", unfollowed := true, recurses := true, plainKeys := false, apart := false, narrowed := true }
def ShownUptoSaid : Prop := shownUptoRow.holds Tryz.pinned (OpenSpec.upto shownSpec)

/-- 'assignlaw.All', WHERE WHAT IT READS IS OF BULK AT MOST 1048576: true; the input reads as it did. -/
def allUptoRow : OpenClaim := { program := "ytjdindfjfpdikaagreat", sum := "5cae7291a423fd4984853d214e56f7b2820a6750364f5474b1957beeeb486b02", func := "assign/assignlaw.All", spec := "all", unfollowed := true, recurses := true, plainKeys := false, apart := false, narrowed := true }
def AllUptoSaid : Prop := allUptoRow.holds Tryz.pinned (OpenSpec.upto allSpec)

end Rows
end Go.Proofs.YtjdindfjfpdikaaGreat
