/- What statement of package parse does, where block is known. -/
import Derived.Test.YtlnbmmgbfgmboaaQ5
namespace Go.Proofs.Ytlnbmmgbfgmboaa
open Go.RowKit

end Go.Proofs.Ytlnbmmgbfgmboaa
