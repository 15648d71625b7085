import Derived.Test.YtkiepcdncegniaaPof
namespace Go.Proofs.Ytkiepcdncegniaa
open Go.RowKit

end Go.Proofs.Ytkiepcdncegniaa
