/- The contracts of the chapter's own part and Left. -/
import Derived.Test.YtmkbllkfipcghabDoorSC
namespace Go.Proofs.YtmkbllkfipcghabDoor
open Go.RowKit

end Go.Proofs.YtmkbllkfipcghabDoor
