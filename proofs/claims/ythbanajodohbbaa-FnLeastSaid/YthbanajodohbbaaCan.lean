/-
  Nothing of CanWeigh is reached here.
-/
import Derived.Test.YthbanajodohbbaaWaysSpec
import Derived.Test.YthbanajodohbbaaFewMath
