/- The walks of the library's Grow and Concat over bytes. Frames: what they are, and the walks of Frame, the program's and the document's. -/
import Derived.Test.YtennlckfmgfjbaaGreatDoorQShelf2
import Derived.Test.YtennlckfmgfjbaaGreatDoorGApp3
import Derived.Test.YtennlckfmgfjbaaGreatDoorGCrc3
import Derived.Test.YtennlckfmgfjbaaGreatDoorGFrSpec4
import Derived.Test.YtennlckfmgfjbaaGreatDoorGSum2
namespace Go.Proofs.YtennlckfmgfjbaaGreatDoor
open Go.RowKit
/-- The length of all together, behind a name that the walk does not open. -/
def flen (ls : List (List UInt8)) : Nat := ls.flatten.length
end Go.Proofs.YtennlckfmgfjbaaGreatDoor
namespace Go.Proofs.YtennlckfmgfjbaaGreatDoor
open Go.RowKit
end Go.Proofs.YtennlckfmgfjbaaGreatDoor
