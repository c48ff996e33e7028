/-
  The contracts of the program's rotate and mix.
-/
import Derived.Test.YtgkckblcekbafaaSS3
namespace Go.Proofs.Ytgkckblcekbafaa
set_option maxRecDepth 100000
open Go.RowKit

end Go.Proofs.Ytgkckblcekbafaa
