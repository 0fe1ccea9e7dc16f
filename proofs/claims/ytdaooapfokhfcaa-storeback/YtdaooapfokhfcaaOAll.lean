/-
  All that the statements of layer 6 without the reference stand on.
-/
import Derived.Test.YtdaooapfokhfcaaA39
import Derived.Test.YtdaooapfokhfcaaA40
import Derived.Test.YtdaooapfokhfcaaA41
import Derived.Test.YtdaooapfokhfcaaA42
namespace Go.Proofs.Ytdaooapfokhfcaa
end Go.Proofs.Ytdaooapfokhfcaa
