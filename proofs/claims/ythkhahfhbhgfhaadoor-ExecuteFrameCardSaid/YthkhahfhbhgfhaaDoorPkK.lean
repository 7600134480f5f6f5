/-
  Contracts over the translated program and the plain facts behind them, of the texts: ExRdA1, ExRdA2. Conditions: those that stand in each theorem.
-/
import Derived.Test.YthkhahfhbhgfhaaDoorPkR
import Derived.Test.YthkhahfhbhgfhaaDoorPkE
namespace Go.Proofs.YthkhahfhbhgfhaaDoor
open Go.ChangeShapes Go.WideShapes Go.ChangeAt Go.RowKit Go.Sort
set_option linter.unusedVariables false

end Go.Proofs.YthkhahfhbhgfhaaDoor
namespace Go.Proofs.YthkhahfhbhgfhaaDoor
open Go.ChangeShapes Go.WideShapes Go.ChangeAt Go.RowKit Go.Sort
set_option linter.unusedVariables false

end Go.Proofs.YthkhahfhbhgfhaaDoor
