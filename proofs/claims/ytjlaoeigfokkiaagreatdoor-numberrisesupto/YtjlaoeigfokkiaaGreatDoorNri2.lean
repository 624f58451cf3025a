import Derived.Test.YtjlaoeigfokkiaaGreatDoorRows
namespace Go.Proofs.YtjlaoeigfokkiaaGreatDoor.mem
set_option linter.unusedVariables false

end Go.Proofs.YtjlaoeigfokkiaaGreatDoor.mem
