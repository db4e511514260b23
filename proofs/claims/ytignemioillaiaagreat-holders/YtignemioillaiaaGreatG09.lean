/- Lemmas. -/
import Derived.Test.YtignemioillaiaaGreatG08
import Derived.Test.YtignemioillaiaaGreatProg
import Derived.KernelRfl
namespace Go.Proofs.YtignemioillaiaaGreat
set_option maxHeartbeats 8000000
set_option maxRecDepth 100000
open List
section
open Go Go.Conc

end
