import Derived.Test.YtmgoohgophcbaaaPof
namespace Go.Proofs.Ytmgoohgophcbaaa
open Go.RowKit

end Go.Proofs.Ytmgoohgophcbaaa
