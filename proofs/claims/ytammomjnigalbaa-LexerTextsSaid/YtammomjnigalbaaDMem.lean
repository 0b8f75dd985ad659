/-
  The memory words of this seat: those of BMem. No condition.
-/
import Derived.Test.YtammomjnigalbaaBMem
