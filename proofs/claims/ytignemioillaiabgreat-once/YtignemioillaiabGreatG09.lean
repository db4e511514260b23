/- Lemmas. -/
import Derived.Test.YtignemioillaiabGreatG08
import Derived.Test.YtignemioillaiabGreatProg
import Derived.KernelRfl
namespace Go.Proofs.YtignemioillaiabGreat
set_option maxHeartbeats 8000000
set_option maxRecDepth 100000
open List
section
open Go Go.Conc

end
