import Derived.Test.YtfaponkpgcdgkaaPoe
namespace Go.Proofs.Ytfaponkpgcdgkaa
open Go.RowKit

end Go.Proofs.Ytfaponkpgcdgkaa
