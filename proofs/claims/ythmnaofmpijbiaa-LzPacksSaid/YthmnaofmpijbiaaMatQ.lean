/- What the landed package match keeps (a premise of the walks: 'Kept'; to be proved of the landed code), and the examples at the head of all statements. -/
import Derived.Test.YthmnaofmpijbiaaMatT
import Derived.Test.YthmnaofmpijbiaaGiv
import Derived.Lib.SlBytesConst
namespace Go.Proofs.Ythmnaofmpijbiaa
open Go.RowKit Go.Own
namespace Mat
open Go.MatM Byt

def RetYes (w : World) (e : Ending) (w' : World) : Prop := e = .returned (.bool true) ∧ Below w.heap.size w w'

/-- the first bytes -/
def fw (l : Bs) : Bs := l.take 1000
theorem fw_len (l : Bs) : (fw l).length = min l.length 1000 := by unfold fw; rw [List.length_take]; omega
end Mat
end Go.Proofs.Ythmnaofmpijbiaa
