import Derived.BigRegion
import Derived.Test.YtjdindfjfpdikabB05
import Derived.Test.YtjdindfjfpdikabB10
import Derived.Test.YtjdindfjfpdikabB20
import Derived.Test.YtjdindfjfpdikabB21
import Derived.Test.YtjdindfjfpdikabB28
import Derived.Test.YtjdindfjfpdikabPre
set_option maxRecDepth 100000
set_option maxHeartbeats 8000000
namespace Go.Proofs.Ytjdindfjfpdikab
end Go.Proofs.Ytjdindfjfpdikab
