/- The walks over rec.Bytes: refused, and made. -/
import Derived.Test.YtidcgobnhfganaaHe
namespace Go.Proofs.Ytidcgobnhfganaa
open Go.RowKit



end Go.Proofs.Ytidcgobnhfganaa
