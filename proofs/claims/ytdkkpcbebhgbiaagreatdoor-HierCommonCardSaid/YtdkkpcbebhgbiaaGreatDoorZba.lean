/- What the rows list of the library's variables, and a world that bears it. No walk reads them. -/
import Derived.Test.YtdkkpcbebhgbiaaGreatDoorZaf
import Derived.Test.YtdkkpcbebhgbiaaGreatDoorCards
import Derived.Test.YtdkkpcbebhgbiaaGreatDoorTie
import Derived.ProofKit
import Derived.LaidMore
import Derived.OpenShut
import Derived.Lay
import Derived.Stop.Joined
import Derived.SevenTiedAt
namespace Go.Proofs.YtdkkpcbebhgbiaaGreatDoor
set_option maxRecDepth 100000
open Go.ChangeShapes Go.WideShapes Go.ChangeAt Go.RowKit Go.Joins

/-- The variables that the rows list. -/
def laidD : List (String × DataW Unit) := [("unicode/utf8.acceptRanges", Rows.laid_unicode_utf8_acceptRanges), ("unicode/utf8.first", Rows.laid_unicode_utf8_first)]
end Go.Proofs.YtdkkpcbebhgbiaaGreatDoor
