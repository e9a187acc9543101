/-
  Layer 8: reading a field: the document's answer: a number, bytes, words.
-/
import Derived.Test.YtmgfbabknehipaaD7
namespace Go.Proofs.Ytmgfbabknehipaa
open Go.RowKit Go.Tab

end Go.Proofs.Ytmgfbabknehipaa
