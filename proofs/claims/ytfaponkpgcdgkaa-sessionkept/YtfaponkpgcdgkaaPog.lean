import Derived.Test.YtfaponkpgcdgkaaPof
namespace Go.Proofs.Ytfaponkpgcdgkaa
open Go.RowKit

end Go.Proofs.Ytfaponkpgcdgkaa
