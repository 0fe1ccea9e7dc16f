/-
  All that StateReads leans on; nothing of its own.
-/
import Derived.Test.YtjkladljhbcelaaS3
import Derived.Test.YtjkladljhbcelaaSEqs
import Derived.Test.YtjkladljhbcelaaSP2
import Derived.Test.YtjkladljhbcelaaWRfT
import Derived.Test.YtjkladljhbcelaaR41
import Derived.Test.YtjkladljhbcelaaR43
namespace Go.Proofs.Ytjkladljhbcelaa
end Go.Proofs.Ytjkladljhbcelaa
