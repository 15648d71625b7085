import Derived.Test.YtmgoohgophcbaaaPoe
namespace Go.Proofs.Ytmgoohgophcbaaa
open Go.RowKit

end Go.Proofs.Ytmgoohgophcbaaa
