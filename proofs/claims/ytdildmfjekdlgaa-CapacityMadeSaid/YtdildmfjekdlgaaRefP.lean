import Derived.Test.YtdildmfjekdlgaaBlockP
import Derived.Test.YtdildmfjekdlgaaPackAB
import Derived.Deep.RegionLaw
/- The walks of the reference's constants and Sum. -/
namespace Go.Proofs.Ytdildmfjekdlgaa
open Go.RowKit
end Go.Proofs.Ytdildmfjekdlgaa
