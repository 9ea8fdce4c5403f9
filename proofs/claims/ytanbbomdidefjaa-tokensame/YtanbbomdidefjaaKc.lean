/- same, Set, Without, places, Once, Alike. -/
import Derived.Test.YtanbbomdidefjaaKa
import Derived.Test.YtanbbomdidefjaaKm
import Derived.Laws.OwnMore
import Derived.Deep.AppendLies
namespace Go.Proofs.Ytanbbomdidefjaa
open Go.RowKit Go.Lib

/-- what a call gives that answers a list of its own -/
def GivesA (xs : List Atr) (w : World) (e : Ending) (w' : World) : Prop :=
  ∃ v, e = .returned v ∧ w'.ownsRow w.heap.size 39 2 v xs.length (cellsA xs) ∧ Below w.heap.size w w'
theorem encA_cells (x : Atr) (W : World) : ∀ (j : Nat) (u : Value), (cellsA [x])[j]? = some u → (W.alloc (.cells #[.string x.1, .string x.2] 39)).cell? ((⟨W.heap.size, 0, none⟩ : Addr).add j) = some u := by
  intro j u hu
  exact cells_new W (cellsA [x]) 39 j u hu

end Go.Proofs.Ytanbbomdidefjaa
