/- The code of the program that is allowed: which functions, which slots hold functions. -/
import Derived.Test.YtignemioillaiaaGreatG09
import Derived.Test.YtignemioillaiaaGreatProg
import Derived.KernelRfl
namespace Go.Proofs.YtignemioillaiaaGreat
set_option maxHeartbeats 8000000
set_option maxRecDepth 100000
section
open Go Go.Conc

end
end Go.Proofs.YtignemioillaiaaGreat
