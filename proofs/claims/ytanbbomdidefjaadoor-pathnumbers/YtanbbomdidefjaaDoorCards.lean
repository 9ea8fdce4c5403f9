/-
  DERIVED. GIVEN WITH THE SEED: THE CARDS: each row of YtanbbomdidefjaaDoorRows.lean that lists a variable, with what it lists TIED to the program's text (the seventh form; the later family's looks); each row that meets fmt, with fmt's text TOLD by the authors' own Lean function (tested against real Go, not proved from fmt's source: count such statements apart). THE CARD IS WHAT COUNTS. Prove the row's statement (the work); the ties are given (YtanbbomdidefjaaDoorTie.lean); close each card by the builder's one call (the guide's Derived/Test/ToyasCard.lean, 'card_holds'). Laid BY PROGRAM, IN A SANDBOX (cutbox-door.mjs). By AI agents, Wed Nov 11 2026. No macro, syntax, notation, axiom, sorry.
-/
import Derived.Test.YtanbbomdidefjaaDoorRows
import GoSem.ClaimSeven
namespace Go.Proofs.YtanbbomdidefjaaDoor
namespace Rows

/-- THE TIED CARD OF 'woodcutlaw06.PathTables'. -/
def pathTablesCard : Claim7 := { stood := { row := pathTablesRow, standIns := [], harness := (true, "cab1c7dc78fc606a3961c03d9282509e81a70a709f8f98eb485fad0e2044059d"), looks := false }, kinds := [], alts := [], laidByText := true, laidKinds := [.data, .pinned], laidTests := true, laidLooks := .later }
def PathTablesCardSaid : Prop := Claim7.holds Tryd.pinned (.plain (OpenSpec.ofChange pathTablesSpec)) pathTablesCard

/-- THE TIED CARD OF 'woodcutlaw06.PathNumbers'. -/
def pathNumbersCard : Claim7 := { stood := { row := pathNumbersRow, standIns := [], harness := (true, "cab1c7dc78fc606a3961c03d9282509e81a70a709f8f98eb485fad0e2044059d"), looks := false }, kinds := [], alts := [], laidByText := true, laidKinds := [.data, .pinned], laidTests := true, laidLooks := .later }
def PathNumbersCardSaid : Prop := Claim7.holds Tryd.pinned (.plain (OpenSpec.ofChange pathNumbersSpec)) pathNumbersCard

/-- THE SECOND FORM's CARD OF 'woodcutlaw06.PathTables'. -/
def pathTablesUptoCard : Claim7 := { stood := { row := pathTablesUptoRow, standIns := [], harness := (true, "cab1c7dc78fc606a3961c03d9282509e81a70a709f8f98eb485fad0e2044059d"), looks := false }, kinds := [], alts := [], laidByText := true, laidKinds := [.data, .pinned], laidTests := true, laidLooks := .later }
def PathTablesUptoCardSaid : Prop := Claim7.holds Tryd.pinned (.plain (OpenSpec.upto pathTablesSpec)) pathTablesUptoCard

/-- THE SECOND FORM's CARD OF 'woodcutlaw06.PathNumbers'. -/
def pathNumbersUptoCard : Claim7 := { stood := { row := pathNumbersUptoRow, standIns := [], harness := (true, "cab1c7dc78fc606a3961c03d9282509e81a70a709f8f98eb485fad0e2044059d"), looks := false }, kinds := [], alts := [], laidByText := true, laidKinds := [.data, .pinned], laidTests := true, laidLooks := .later }
def PathNumbersUptoCardSaid : Prop := Claim7.holds Tryd.pinned (.plain (OpenSpec.upto pathNumbersSpec)) pathNumbersUptoCard
end Rows
end Go.Proofs.YtanbbomdidefjaaDoor
