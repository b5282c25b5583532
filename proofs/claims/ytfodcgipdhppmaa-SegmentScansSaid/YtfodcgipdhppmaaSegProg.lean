/-
  What the program's functions of layer 9 answer: all of them.
-/
import Derived.Test.YtfodcgipdhppmaaSegRead
import Derived.Test.YtfodcgipdhppmaaSegIndex
