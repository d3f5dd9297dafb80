/-
  The document's own long division: the walk.
-/
import Derived.Test.YtmlkdfieakihlaaExRd
namespace Go.Proofs.Ytmlkdfieakihlaa.Ex
open Go.RowKit

end Go.Proofs.Ytmlkdfieakihlaa.Ex
