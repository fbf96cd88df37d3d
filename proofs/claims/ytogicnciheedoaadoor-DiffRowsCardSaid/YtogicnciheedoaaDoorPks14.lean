/-
  The texts of one folder in one: BaSpec, BaMath, BaText.
-/
import Derived.Test.YtogicnciheedoaaDoorPks02
import Derived.Test.YtogicnciheedoaaDoorPks08
import Derived.Test.YtogicnciheedoaaDoorPks12
import Derived.Test.YtogicnciheedoaaDoorPks01

/-
  Batches in plain words: changes that may be, rows of them by their paths, the last change of each path; their bytes. No program is named here.
-/
namespace Go.Proofs.YtogicnciheedoaaDoor
set_option maxRecDepth 100000

/-! ### Rows that rise -/

end Go.Proofs.YtogicnciheedoaaDoor

/-
  What follows of batches in plain words: the order of unlike paths, two rows joined.
-/
namespace Go.Proofs.YtogicnciheedoaaDoor
set_option maxRecDepth 100000

/-! ### How many -/

/-! ### Two batches joined -/

/-! ### A change's place, as a loop finds it -/

end Go.Proofs.YtogicnciheedoaaDoor

/-
  A batch's bytes in plain words.
-/
namespace Go.Proofs.YtogicnciheedoaaDoor
set_option maxRecDepth 100000

/-! ### What is laid is read, what is read is laid -/

end Go.Proofs.YtogicnciheedoaaDoor
