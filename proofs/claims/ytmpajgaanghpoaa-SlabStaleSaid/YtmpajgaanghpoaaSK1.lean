/-
  The contracts of the program's rotate and mix.
-/
import Derived.Test.YtmpajgaanghpoaaSS3
namespace Go.Proofs.Ytmpajgaanghpoaa
set_option maxRecDepth 100000
open Go.RowKit

end Go.Proofs.Ytmpajgaanghpoaa
