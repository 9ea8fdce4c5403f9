/-
  DERIVED. GIVEN WITH THE SEED: THE CARDS: each row of YtfkbjniodomdjaaDoorRows.lean that lists a variable, with what it lists TIED to the program's text (the seventh form; the later family's looks); each row that meets fmt, with fmt's text TOLD by the authors' own Lean function (tested against real Go, not proved from fmt's source: count such statements apart). THE CARD IS WHAT COUNTS. Prove the row's statement (the work); the ties are given (YtfkbjniodomdjaaDoorTie.lean); close each card by the builder's one call (the guide's Derived/Test/ToyasCard.lean, 'card_holds'). Laid BY PROGRAM, IN A SANDBOX (cutbox-door.mjs). By AI agents, Wed Nov 11 2026. No macro, syntax, notation, axiom, sorry.
-/
import Derived.Test.YtfkbjniodomdjaaDoorRows
import GoSem.ClaimSeven
namespace Go.Proofs.YtfkbjniodomdjaaDoor
namespace Rows

/-- THE TIED CARD OF 'woodcutlaw06.PathTables'. -/
def pathTablesCard : Claim7 := { stood := { row := pathTablesRow, standIns := [], harness := (true, "0cbd97c130a0aabfa428d099c1b823397b58d45e4755d7814a7760ae5db3a261"), looks := false }, kinds := [], alts := [], laidByText := true, laidKinds := [.data, .pinned], laidTests := true, laidLooks := .later }
def PathTablesCardSaid : Prop := Claim7.holds Tryd.pinned (.plain (OpenSpec.ofChange pathTablesSpec)) pathTablesCard

/-- THE TIED CARD OF 'woodcutlaw10.SerTexts'. -/
def serTextsCard : Claim7 := { stood := { row := serTextsRow, standIns := [], harness := (true, "0cbd97c130a0aabfa428d099c1b823397b58d45e4755d7814a7760ae5db3a261"), looks := false }, kinds := [], alts := [], laidByText := true, laidKinds := [.data, .pinned], laidTests := true, laidLooks := .later }
def SerTextsCardSaid : Prop := Claim7.holds Tryd.pinned (.plain (OpenSpec.ofChange serTextsSpec)) serTextsCard

/-- THE TIED CARD OF 'woodcutlaw10.SerWrites'. -/
def serWritesCard : Claim7 := { stood := { row := serWritesRow, standIns := [], harness := (true, "0cbd97c130a0aabfa428d099c1b823397b58d45e4755d7814a7760ae5db3a261"), looks := false }, kinds := [], alts := [], laidByText := true, laidKinds := [.data, .pinned], laidTests := true, laidLooks := .later }
def SerWritesCardSaid : Prop := Claim7.holds Tryd.pinned (.plain (OpenSpec.ofChange serWritesSpec)) serWritesCard

/-- THE TIED CARD OF 'woodcutlaw10.SerNames'. -/
def serNamesCard : Claim7 := { stood := { row := serNamesRow, standIns := [], harness := (true, "0cbd97c130a0aabfa428d099c1b823397b58d45e4755d7814a7760ae5db3a261"), looks := false }, kinds := [], alts := [], laidByText := true, laidKinds := [.data, .pinned], laidTests := true, laidLooks := .later }
def SerNamesCardSaid : Prop := Claim7.holds Tryd.pinned (.plain (OpenSpec.ofChange serNamesSpec)) serNamesCard

/-- THE TIED CARD OF 'woodcutlaw10.SerJoins'. -/
def serJoinsCard : Claim7 := { stood := { row := serJoinsRow, standIns := [], harness := (true, "0cbd97c130a0aabfa428d099c1b823397b58d45e4755d7814a7760ae5db3a261"), looks := false }, kinds := [], alts := [], laidByText := true, laidKinds := [.data, .pinned], laidTests := true, laidLooks := .later }
def SerJoinsCardSaid : Prop := Claim7.holds Tryd.pinned (.plain (OpenSpec.ofChange serJoinsSpec)) serJoinsCard

/-- THE SECOND FORM's CARD OF 'woodcutlaw06.PathTables'. -/
def pathTablesUptoCard : Claim7 := { stood := { row := pathTablesUptoRow, standIns := [], harness := (true, "0cbd97c130a0aabfa428d099c1b823397b58d45e4755d7814a7760ae5db3a261"), looks := false }, kinds := [], alts := [], laidByText := true, laidKinds := [.data, .pinned], laidTests := true, laidLooks := .later }
def PathTablesUptoCardSaid : Prop := Claim7.holds Tryd.pinned (.plain (OpenSpec.upto pathTablesSpec)) pathTablesUptoCard

/-- THE SECOND FORM's CARD OF 'woodcutlaw10.SerTexts'. -/
def serTextsUptoCard : Claim7 := { stood := { row := serTextsUptoRow, standIns := [], harness := (true, "0cbd97c130a0aabfa428d099c1b823397b58d45e4755d7814a7760ae5db3a261"), looks := false }, kinds := [], alts := [], laidByText := true, laidKinds := [.data, .pinned], laidTests := true, laidLooks := .later }
def SerTextsUptoCardSaid : Prop := Claim7.holds Tryd.pinned (.plain (OpenSpec.upto serTextsSpec)) serTextsUptoCard

/-- THE SECOND FORM's CARD OF 'woodcutlaw10.SerWrites'. -/
def serWritesUptoCard : Claim7 := { stood := { row := serWritesUptoRow, standIns := [], harness := (true, "0cbd97c130a0aabfa428d099c1b823397b58d45e4755d7814a7760ae5db3a261"), looks := false }, kinds := [], alts := [], laidByText := true, laidKinds := [.data, .pinned], laidTests := true, laidLooks := .later }
def SerWritesUptoCardSaid : Prop := Claim7.holds Tryd.pinned (.plain (OpenSpec.upto serWritesSpec)) serWritesUptoCard

/-- THE SECOND FORM's CARD OF 'woodcutlaw10.SerNames'. -/
def serNamesUptoCard : Claim7 := { stood := { row := serNamesUptoRow, standIns := [], harness := (true, "0cbd97c130a0aabfa428d099c1b823397b58d45e4755d7814a7760ae5db3a261"), looks := false }, kinds := [], alts := [], laidByText := true, laidKinds := [.data, .pinned], laidTests := true, laidLooks := .later }
def SerNamesUptoCardSaid : Prop := Claim7.holds Tryd.pinned (.plain (OpenSpec.upto serNamesSpec)) serNamesUptoCard

/-- THE SECOND FORM's CARD OF 'woodcutlaw10.SerJoins'. -/
def serJoinsUptoCard : Claim7 := { stood := { row := serJoinsUptoRow, standIns := [], harness := (true, "0cbd97c130a0aabfa428d099c1b823397b58d45e4755d7814a7760ae5db3a261"), looks := false }, kinds := [], alts := [], laidByText := true, laidKinds := [.data, .pinned], laidTests := true, laidLooks := .later }
def SerJoinsUptoCardSaid : Prop := Claim7.holds Tryd.pinned (.plain (OpenSpec.upto serJoinsSpec)) serJoinsUptoCard
end Rows
end Go.Proofs.YtfkbjniodomdjaaDoor
