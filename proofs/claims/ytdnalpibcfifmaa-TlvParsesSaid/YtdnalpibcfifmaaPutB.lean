/-
  What the document's Put comes to.
-/
import Derived.Test.YtdnalpibcfifmaaPut
namespace Go.Proofs.Ytdnalpibcfifmaa
open Go.RowKit

end Go.Proofs.Ytdnalpibcfifmaa
