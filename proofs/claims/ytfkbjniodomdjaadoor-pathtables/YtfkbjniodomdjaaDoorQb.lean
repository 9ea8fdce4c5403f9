/- Table[int, string]: Put, All. -/
import Derived.Test.YtfkbjniodomdjaaDoorQt
import Derived.Lib.Hide
import Derived.RangeFuncFrom
import Derived.TacticsIn
import Derived.TacticsInMore
import Derived.LoopN
import Derived.LoopIn
import Derived.BigRegionIn
namespace Go.Proofs.YtfkbjniodomdjaaDoor
open Go.RowKit Go.Shelf Go.Lib
attribute [local go_sem] Oper.semAt_some

abbrev encIS (x : Int × ByteArray) : Array Value := #[(Value.int .i64) x.1, Value.string x.2]
theorem zip_stepIS {ns : List Int} {ts : List (ByteArray)} {p : Nat} {a : Int} {b : ByteArray} (h1 : ns[p]? = some a) (h2 : ts[p]? = some b) : (ns.zip ts).take (p + 1) = (ns.zip ts).take p ++ [(a, b)] := by
  rw [List.take_add_one]
  congr 1
  rw [show (ns.zip ts)[p]? = some (a, b) from List.getElem?_zip_eq_some.2 ⟨h1, h2⟩]
  rfl

end Go.Proofs.YtfkbjniodomdjaaDoor
