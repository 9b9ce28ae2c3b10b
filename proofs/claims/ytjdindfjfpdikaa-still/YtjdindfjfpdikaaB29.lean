import Derived.BigRegion
import Derived.Test.YtjdindfjfpdikaaB05
import Derived.Test.YtjdindfjfpdikaaB10
import Derived.Test.YtjdindfjfpdikaaB20
import Derived.Test.YtjdindfjfpdikaaB21
import Derived.Test.YtjdindfjfpdikaaB28
import Derived.Test.YtjdindfjfpdikaaPre
set_option maxRecDepth 100000
set_option maxHeartbeats 8000000
namespace Go.Proofs.Ytjdindfjfpdikaa
section
open Go.RowKit
theorem where_at {l0:Things}{l1:Runs}{l2:Waits}{l3:Prefs}{R:RSt}(h:Sim l0 l1 l2 l3 R){i:Nat}(hi:i<R.t3.length){w:World}{pb b0 b1 b2 b3:Nat}(hp:PlanAt w pb b0 b1 b2 b3 l0 l1 l2 l3) :
  Calls Try.prog 19 #[.pointer (some ⟨pb,0,none⟩),.int .i64 R.t3[i].1] w fun x w'=>x=.returned (.tuple #[.int .i64 (R.on.getD i (-1)),.int .i64 0])∧Below w.heap.size w w':=by
 have hio:i<R.on.length:=by rw [h.fit.lo]; exact hi
 have hon:=h.mv hi hio
 rw [getD_at hio,hon]
 unfold onL
 cases e:get (3,R.t3[i].1) l1 with
 | none=>exact where_none hp _ (by rw [h.yes3 hi]; rfl) e
 | some m=>exact where_on hp _ m.1 m.2 (by rw [h.yes3 hi]; rfl) e
theorem Rn_on {R:RSt}{P:Nat→Nat}{i:Nat}(hi:i<R.t3.length):(Rn R P R.t3.length).on.getD i (-1)=onId R P i:=by
 show (intL R.t3.length (onF R P R.t3.length)).getD i (-1)=_
 rw [getD_at (by rw [intL_length]; exact hi),intL_get]
 unfold onF
 rw [if_pos hi]
end
end Go.Proofs.Ytjdindfjfpdikaa
