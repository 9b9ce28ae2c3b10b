import Derived.Test.YtjdindfjfpdikabB10
import Derived.Test.YtjdindfjfpdikabPre
set_option maxRecDepth 100000
set_option maxHeartbeats 8000000
namespace Go.Proofs.Ytjdindfjfpdikab
section
open Go.RowKit
def onId (R:RSt)(P:Nat→Nat):Nat→Int:=fun i=>if P i<R.t1.length then (R.t1.getD (P i) (0,0,0)).1 else -1
end
end Go.Proofs.Ytjdindfjfpdikab
