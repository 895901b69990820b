/-
  Stage 14: all that its laws' walks stand on.
-/
import Derived.Test.YtckammgnmgkieaaGreatMQ23
import Derived.Test.YtckammgnmgkieaaGreatMQ43
import Derived.Test.YtckammgnmgkieaaGreatMQ17

