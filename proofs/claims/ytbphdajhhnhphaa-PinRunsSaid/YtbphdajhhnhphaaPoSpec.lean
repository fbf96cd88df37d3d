/-
  Steps of a script of pins, in plain words. No program is named here.
-/
import Derived.Test.YtbphdajhhnhphaaPnMore
namespace Go.Proofs.Ytbphdajhhnhphaa
set_option maxRecDepth 100000

/-- A step: its kind, a session, a time. -/
abbrev Po := Int × Int × Int
/-- What is told of a session. -/
def toldN (g : Bool) (t : Int) : Option Int := if g then some t else none

end Go.Proofs.Ytbphdajhhnhphaa
