import Derived.BigRegion
import Derived.Test.YtjdindfjfpdikaaB05
import Derived.Test.YtjdindfjfpdikaaB10
import Derived.Test.YtjdindfjfpdikaaB20
import Derived.Test.YtjdindfjfpdikaaB21
import Derived.Test.YtjdindfjfpdikaaB28
import Derived.Test.YtjdindfjfpdikaaPre
set_option maxRecDepth 100000
set_option maxHeartbeats 8000000
namespace Go.Proofs.Ytjdindfjfpdikaa
end Go.Proofs.Ytjdindfjfpdikaa
