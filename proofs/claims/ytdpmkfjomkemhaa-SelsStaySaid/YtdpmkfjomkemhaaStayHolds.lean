/- Whatever selections and whatever length from 0 on are handed in, the law SelsStay answers true: up to 60 selections, what the program made normal is normal, stays as it is when made normal again, and each selection that was within the text lies in one that came of it (above 60 the law asks the document's examples alone); and the arguments read as they did. Conditions: none. -/
import Derived.Test.YtdpmkfjomkemhaaHolds
import Derived.Test.YtdpmkfjomkemhaaSaid
namespace Go.Proofs.Ytdpmkfjomkemhaa
open Go

theorem selsStay_holds : Rows.SelsStaySaid := stay_holds said

#print axioms selsStay_holds
end Go.Proofs.Ytdpmkfjomkemhaa
