import Derived.Test.YtdildmfjekdlgaaPackAF
/- The walk of the reference's Check. -/
namespace Go.Proofs.Ytdildmfjekdlgaa
open Go.RowKit
end Go.Proofs.Ytdildmfjekdlgaa
