/-
  DERIVED. GIVEN WITH THE SEED: THE CARDS: each row of YtdoglpaggmdnpaaDoorRows.lean that lists a variable, with what it lists TIED to the program's text (the seventh form; the later family's looks); each row that meets fmt, with fmt's text TOLD by the authors' own Lean function (tested against real Go, not proved from fmt's source: count such statements apart). THE CARD IS WHAT COUNTS. Prove the row's statement (the work); the ties are given (YtdoglpaggmdnpaaDoorTie.lean); close each card by the builder's one call (the guide's Derived/Test/ToyasCard.lean, 'card_holds'). Laid BY PROGRAM, IN A SANDBOX (cutbox-door.mjs). By AI agents, Wed Nov 11 2026. No macro, syntax, notation, axiom, sorry.
-/
import Derived.Test.YtdoglpaggmdnpaaDoorRows
import GoSem.ClaimSeven
namespace Go.Proofs.YtdoglpaggmdnpaaDoor
namespace Rows

/-- THE TIED CARD OF 'woodcutlaw01.TextWords'. -/
def textWordsCard : Claim7 := { stood := { row := textWordsRow, standIns := [], harness := (true, "a51c35d8fd05f8e6c469555dcaec1e6c33a01a0f354c46db4027153258c8ae7d"), looks := false }, kinds := [], alts := [], laidByText := true, laidKinds := [.data, .pinned], laidTests := true, laidLooks := .later }
def TextWordsCardSaid : Prop := Claim7.holds Tryd.pinned (.plain (OpenSpec.ofChange textWordsSpec)) textWordsCard

/-- THE TIED CARD OF 'woodcutlaw02.CharsNumbers'. -/
def charsNumbersCard : Claim7 := { stood := { row := charsNumbersRow, standIns := [], harness := (true, "a51c35d8fd05f8e6c469555dcaec1e6c33a01a0f354c46db4027153258c8ae7d"), looks := false }, kinds := [], alts := [], laidByText := true, laidKinds := [.data], laidTests := true, laidLooks := .later }
def CharsNumbersCardSaid : Prop := Claim7.holds Tryd.pinned (.plain (OpenSpec.ofChange charsNumbersSpec)) charsNumbersCard

/-- THE TIED CARD OF 'woodcutlaw02.CharsNumeric'. -/
def charsNumericCard : Claim7 := { stood := { row := charsNumericRow, standIns := [], harness := (true, "a51c35d8fd05f8e6c469555dcaec1e6c33a01a0f354c46db4027153258c8ae7d"), looks := false }, kinds := [], alts := [], laidByText := true, laidKinds := [.data], laidTests := true, laidLooks := .later }
def CharsNumericCardSaid : Prop := Claim7.holds Tryd.pinned (.plain (OpenSpec.ofChange charsNumericSpec)) charsNumericCard

/-- THE SECOND FORM's CARD OF 'woodcutlaw01.TextWords'. -/
def textWordsUptoCard : Claim7 := { stood := { row := textWordsUptoRow, standIns := [], harness := (true, "a51c35d8fd05f8e6c469555dcaec1e6c33a01a0f354c46db4027153258c8ae7d"), looks := false }, kinds := [], alts := [], laidByText := true, laidKinds := [.data, .pinned], laidTests := true, laidLooks := .later }
def TextWordsUptoCardSaid : Prop := Claim7.holds Tryd.pinned (.plain (OpenSpec.upto textWordsSpec)) textWordsUptoCard

/-- THE SECOND FORM's CARD OF 'woodcutlaw02.CharsNumbers'. -/
def charsNumbersUptoCard : Claim7 := { stood := { row := charsNumbersUptoRow, standIns := [], harness := (true, "a51c35d8fd05f8e6c469555dcaec1e6c33a01a0f354c46db4027153258c8ae7d"), looks := false }, kinds := [], alts := [], laidByText := true, laidKinds := [.data], laidTests := true, laidLooks := .later }
def CharsNumbersUptoCardSaid : Prop := Claim7.holds Tryd.pinned (.plain (OpenSpec.upto charsNumbersSpec)) charsNumbersUptoCard

/-- THE SECOND FORM's CARD OF 'woodcutlaw02.CharsNumeric'. -/
def charsNumericUptoCard : Claim7 := { stood := { row := charsNumericUptoRow, standIns := [], harness := (true, "a51c35d8fd05f8e6c469555dcaec1e6c33a01a0f354c46db4027153258c8ae7d"), looks := false }, kinds := [], alts := [], laidByText := true, laidKinds := [.data], laidTests := true, laidLooks := .later }
def CharsNumericUptoCardSaid : Prop := Claim7.holds Tryd.pinned (.plain (OpenSpec.upto charsNumericSpec)) charsNumericUptoCard
end Rows
end Go.Proofs.YtdoglpaggmdnpaaDoor
