import Derived.Test.YtlkcjjalkdlicaaDoorMBeq
import Derived.Test.YtlkcjjalkdlicaaDoorMJdt
import Derived.Test.YtlkcjjalkdlicaaDoorMMrsam
import Derived.Test.YtlkcjjalkdlicaaDoorMMod
import Derived.Test.YtlkcjjalkdlicaaDoorMJlaid
set_option linter.unusedVariables false
set_option linter.unusedSimpArgs false
section
/-
  The texts that the laws of chapter 11 lean on.
-/
namespace Go.Proofs.YtlkcjjalkdlicaaDoor
end Go.Proofs.YtlkcjjalkdlicaaDoor
end
