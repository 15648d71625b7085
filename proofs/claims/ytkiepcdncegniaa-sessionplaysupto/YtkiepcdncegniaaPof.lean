import Derived.Test.YtkiepcdncegniaaPoe
namespace Go.Proofs.Ytkiepcdncegniaa
open Go.RowKit

end Go.Proofs.Ytkiepcdncegniaa
