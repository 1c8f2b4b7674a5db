import Derived.Test.YtdildmfjekdlgaaPackAB
/- The walk of the reference's Same. -/
namespace Go.Proofs.Ytdildmfjekdlgaa
open Go.RowKit
end Go.Proofs.Ytdildmfjekdlgaa
