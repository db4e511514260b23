/- The code of the program that is allowed: which functions, which slots hold functions. -/
import Derived.Test.YtignemioillaiabGreatG08
import Derived.Test.YtignemioillaiabGreatProg
import Derived.KernelRfl
namespace Go.Proofs.YtignemioillaiabGreat
set_option maxHeartbeats 8000000
set_option maxRecDepth 100000
section
open Go Go.Conc

end
end Go.Proofs.YtignemioillaiabGreat
