/-
  All of these facts.
-/
import Derived.Test.YtlgfogllkoabpaaQb1
import Derived.Test.YtlgfogllkoabpaaQb2
import Derived.Test.YtlgfogllkoabpaaQb3
