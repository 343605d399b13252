/- Whatever selections, whatever further one and whatever length are handed in, the law SelsNormal answers true: up to 60 selections, the program's Normal and Is answer as the reference does, Span gives the span, and Add answers as the reference's Normal does of the list with one more, or tells that these are too many (above 60 the law asks the document's examples alone); and the arguments read as they did. Conditions: none. -/
import Derived.Test.YtdpmkfjomkemhaaHolds
import Derived.Test.YtdpmkfjomkemhaaSaid
namespace Go.Proofs.Ytdpmkfjomkemhaa
open Go

theorem selsNormal_holds : Rows.SelsNormalSaid := normal_holds said

#print axioms selsNormal_holds
end Go.Proofs.Ytdpmkfjomkemhaa
