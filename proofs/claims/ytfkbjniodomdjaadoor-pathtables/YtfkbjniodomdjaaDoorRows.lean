/-
  NARROWER THAN 'FOR EVERY INPUT', by the rows' own cells (each row's printed sentence says how): PathTables: laid · SerTexts: laid · SerWrites: laid · SerNames: laid · SerJoins: laid.
  DERIVED. THE GIVEN ROWS OF THIS SEAT. 5 by the template 'for every input the law returns true; each argument reads behind the call as it read before'; 0 by the template 'total and deterministic' (their statements: YtfkbjniodomdjaaDoorTotals.lean).
  GIVEN WITH THE SEED: the statements are not yours to turn. If you find one false, say at which input.
  Laid BY PROGRAM, IN A SANDBOX (cutbox-rows.mjs): the forced cells as the released guide's own fill.sh prints them over the translation b5c1ee260e3eb7b2… (all of the seat's roots in one cut). By AI agents, Wed Nov 11 2026. No macro, syntax, notation, axiom, sorry.
-/
import Derived.Test.YtfkbjniodomdjaaDoorChecked
import GoSem.PinnedTables
import GoSem.Claim
import GoSem.ClaimJoined
import GoSem.ClaimMapViews
import Derived.JoinedTies
import Derived.KernelRfl
namespace Go.Proofs.YtfkbjniodomdjaaDoor
/- THE CELL 'sum', in the pinned program and in every row, IS THE sha256 OF THE DUMP (.gsa) THAT YtfkbjniodomdjaaDoorProg.lean LOADS. Nothing in Lean hashes anything: it is a label: what it is worth is what the hold of that sum in a sandbox is worth. -/
noncomputable def Tryd.pinned : Pinned := { name := "ytfkbjniodomdjaadoor", sum := "b5c1ee260e3eb7b2e8789d4677b10512f35059a5eb0ebe8be0607b46bdbc2fc4", checked := Tryd.checked }
namespace Rows
def none {H : Type} : Left H := { results := [], args := [] }

/- WHAT THE LISTED PACKAGE-LEVEL VARIABLES READ AS WHEN THE CALL BEGINS. Each datum BY PROGRAM (the guide's laid-datum.mjs) off the statement by which the dump's own 'gosem.cut.vars' lays the variable. In a bare row this is a premise. The card (YtfkbjniodomdjaaDoorCards.lean) ties it to the program's text. -/
def laid_unicode_utf8_acceptRanges {H : Type} : DataW H := .agg [.agg [.lit (.int .u8 128), .lit (.int .u8 191)], .agg [.lit (.int .u8 160), .lit (.int .u8 191)], .agg [.lit (.int .u8 128), .lit (.int .u8 159)], .agg [.lit (.int .u8 144), .lit (.int .u8 191)], .agg [.lit (.int .u8 128), .lit (.int .u8 143)], .agg [.lit (.int .u8 0), .lit (.int .u8 0)], .agg [.lit (.int .u8 0), .lit (.int .u8 0)], .agg [.lit (.int .u8 0), .lit (.int .u8 0)], .agg [.lit (.int .u8 0), .lit (.int .u8 0)], .agg [.lit (.int .u8 0), .lit (.int .u8 0)], .agg [.lit (.int .u8 0), .lit (.int .u8 0)], .agg [.lit (.int .u8 0), .lit (.int .u8 0)], .agg [.lit (.int .u8 0), .lit (.int .u8 0)], .agg [.lit (.int .u8 0), .lit (.int .u8 0)], .agg [.lit (.int .u8 0), .lit (.int .u8 0)], .agg [.lit (.int .u8 0), .lit (.int .u8 0)]]
/-- One of Go's own tables, pinned by name: the form's constant. -/
def laid_unicode_utf8_first : DataW Unit := Go.Pinned.utf8First

/-- 'woodcutlaw06.PathTables': WHATEVER THE INPUT: true; the input reads as it did. -/
def pathTablesSpec : ChangeSpec := { name := "pathTables", fn := fun _ => fun
  | [d1, d2] => { results := [.lit (.bool true)], args := [d1, d2] }
  | _ => none }
def pathTablesRow : OpenClaim := { program := "ytfkbjniodomdjaadoor", sum := "b5c1ee260e3eb7b2e8789d4677b10512f35059a5eb0ebe8be0607b46bdbc2fc4", func := "woodcut/woodcutlaw06.PathTables", spec := "pathTables", inPlace := ["internal/bytealg.CountString", "internal/bytealg.IndexByteString", "internal/bytealg.IndexString", "slices.overlaps[string]", "slices.overlaps[int]"], unfollowed := true, recurses := true, named := ["unicode/utf8.first", "unicode/utf8.acceptRanges", "internal/bytealg.MaxLen"], apart := false, laid := [("unicode/utf8.acceptRanges", laid_unicode_utf8_acceptRanges), ("unicode/utf8.first", laid_unicode_utf8_first)] }
def PathTablesSaid : Prop := pathTablesRow.holds Tryd.pinned (OpenSpec.ofChange pathTablesSpec)

/-- ITS FALSE NEIGHBOUR: 'it returns false'. Refute it at one input. -/
def pathTablesWrong : ChangeSpec := { name := "pathTables", fn := fun _ => fun
  | [d1, d2] => { results := [.lit (.bool false)], args := [d1, d2] }
  | _ => none }
def PathTablesWrongFalsely : Prop := pathTablesRow.holds Tryd.pinned (OpenSpec.ofChange pathTablesWrong)

/-- 'woodcutlaw10.SerTexts': WHATEVER THE INPUT: true; the input reads as it did. -/
def serTextsSpec : ChangeSpec := { name := "serTexts", fn := fun _ => fun
  | [d] => { results := [.lit (.bool true)], args := [d] }
  | _ => none }
def serTextsRow : OpenClaim := { program := "ytfkbjniodomdjaadoor", sum := "b5c1ee260e3eb7b2e8789d4677b10512f35059a5eb0ebe8be0607b46bdbc2fc4", func := "woodcut/woodcutlaw10.SerTexts", spec := "serTexts", inPlace := ["slices.overlaps[int]", "internal/bytealg.CountString", "internal/bytealg.IndexByteString", "internal/bytealg.IndexString", "internal/abi.NoEscape", "internal/bytealg.MakeNoZero"], unfollowed := true, recurses := true, named := ["internal/bytealg.MaxLen", "unicode/utf8.first", "unicode/utf8.acceptRanges"], apart := false, laid := [("unicode/utf8.acceptRanges", laid_unicode_utf8_acceptRanges), ("unicode/utf8.first", laid_unicode_utf8_first)] }
def SerTextsSaid : Prop := serTextsRow.holds Tryd.pinned (OpenSpec.ofChange serTextsSpec)

/-- ITS FALSE NEIGHBOUR: 'it returns false'. Refute it at one input. -/
def serTextsWrong : ChangeSpec := { name := "serTexts", fn := fun _ => fun
  | [d] => { results := [.lit (.bool false)], args := [d] }
  | _ => none }
def SerTextsWrongFalsely : Prop := serTextsRow.holds Tryd.pinned (OpenSpec.ofChange serTextsWrong)

/-- 'woodcutlaw10.SerWrites': WHATEVER THE INPUT: true; the input reads as it did. -/
def serWritesSpec : ChangeSpec := { name := "serWrites", fn := fun _ => fun
  | [d] => { results := [.lit (.bool true)], args := [d] }
  | _ => none }
def serWritesRow : OpenClaim := { program := "ytfkbjniodomdjaadoor", sum := "b5c1ee260e3eb7b2e8789d4677b10512f35059a5eb0ebe8be0607b46bdbc2fc4", func := "woodcut/woodcutlaw10.SerWrites", spec := "serWrites", inPlace := ["slices.overlaps[int]", "internal/bytealg.CountString", "internal/bytealg.IndexByteString", "internal/bytealg.IndexString", "internal/abi.NoEscape", "internal/bytealg.MakeNoZero"], unfollowed := true, recurses := true, named := ["internal/bytealg.MaxLen", "unicode/utf8.first", "unicode/utf8.acceptRanges"], apart := false, laid := [("unicode/utf8.acceptRanges", laid_unicode_utf8_acceptRanges), ("unicode/utf8.first", laid_unicode_utf8_first)] }
def SerWritesSaid : Prop := serWritesRow.holds Tryd.pinned (OpenSpec.ofChange serWritesSpec)

/-- ITS FALSE NEIGHBOUR: 'it returns false'. Refute it at one input. -/
def serWritesWrong : ChangeSpec := { name := "serWrites", fn := fun _ => fun
  | [d] => { results := [.lit (.bool false)], args := [d] }
  | _ => none }
def SerWritesWrongFalsely : Prop := serWritesRow.holds Tryd.pinned (OpenSpec.ofChange serWritesWrong)

/-- 'woodcutlaw10.SerNames': WHATEVER THE INPUT: true; the input reads as it did. -/
def serNamesSpec : ChangeSpec := { name := "serNames", fn := fun _ => fun
  | [d] => { results := [.lit (.bool true)], args := [d] }
  | _ => none }
def serNamesRow : OpenClaim := { program := "ytfkbjniodomdjaadoor", sum := "b5c1ee260e3eb7b2e8789d4677b10512f35059a5eb0ebe8be0607b46bdbc2fc4", func := "woodcut/woodcutlaw10.SerNames", spec := "serNames", inPlace := ["slices.overlaps[int]", "internal/bytealg.CountString", "internal/bytealg.IndexByteString", "internal/bytealg.IndexString", "internal/abi.NoEscape", "internal/bytealg.MakeNoZero"], unfollowed := true, recurses := true, named := ["internal/bytealg.MaxLen", "unicode/utf8.first", "unicode/utf8.acceptRanges"], apart := false, laid := [("unicode/utf8.acceptRanges", laid_unicode_utf8_acceptRanges), ("unicode/utf8.first", laid_unicode_utf8_first)] }
def SerNamesSaid : Prop := serNamesRow.holds Tryd.pinned (OpenSpec.ofChange serNamesSpec)

/-- ITS FALSE NEIGHBOUR: 'it returns false'. Refute it at one input. -/
def serNamesWrong : ChangeSpec := { name := "serNames", fn := fun _ => fun
  | [d] => { results := [.lit (.bool false)], args := [d] }
  | _ => none }
def SerNamesWrongFalsely : Prop := serNamesRow.holds Tryd.pinned (OpenSpec.ofChange serNamesWrong)

/-- 'woodcutlaw10.SerJoins': WHATEVER THE INPUT: true; the input reads as it did. -/
def serJoinsSpec : ChangeSpec := { name := "serJoins", fn := fun _ => fun
  | [d1, d2] => { results := [.lit (.bool true)], args := [d1, d2] }
  | _ => none }
def serJoinsRow : OpenClaim := { program := "ytfkbjniodomdjaadoor", sum := "b5c1ee260e3eb7b2e8789d4677b10512f35059a5eb0ebe8be0607b46bdbc2fc4", func := "woodcut/woodcutlaw10.SerJoins", spec := "serJoins", inPlace := ["slices.overlaps[int]", "internal/bytealg.CountString", "internal/bytealg.IndexByteString", "internal/bytealg.IndexString", "internal/abi.NoEscape", "internal/bytealg.MakeNoZero"], unfollowed := true, recurses := true, named := ["internal/bytealg.MaxLen", "unicode/utf8.first", "unicode/utf8.acceptRanges"], apart := false, laid := [("unicode/utf8.acceptRanges", laid_unicode_utf8_acceptRanges), ("unicode/utf8.first", laid_unicode_utf8_first)] }
def SerJoinsSaid : Prop := serJoinsRow.holds Tryd.pinned (OpenSpec.ofChange serJoinsSpec)

/-- ITS FALSE NEIGHBOUR: 'it returns false'. Refute it at one input. -/
def serJoinsWrong : ChangeSpec := { name := "serJoins", fn := fun _ => fun
  | [d1, d2] => { results := [.lit (.bool false)], args := [d1, d2] }
  | _ => none }
def SerJoinsWrongFalsely : Prop := serJoinsRow.holds Tryd.pinned (OpenSpec.ofChange serJoinsWrong)

/- THE SECOND FORM. 'bulk': how many values and letters a reading holds, each counted each time it is reached (what is shared counts as often as it is met; a slice's spare places count too). A statement '..UptoSaid' is the law's where the arguments, and the package variables that the reading takes, are together of bulk at most 1048576: NARROWER than '..Said'. Prove '..Said' where nothing that the law and all that it calls make is longer than what came in: it says more and counts as full. Else prove '..UptoSaid'. A law counts once. -/
mutual
def uptoBulk {H : Type} : DataW H → Nat
  | .lit (.string bytes) => bytes.length + 1
  | .lit _ => 1
  | .nil => 1
  | .ptr d => uptoBulk d + 1
  | .slice elems spare => uptoBulkAll elems + uptoBulkAll spare + 1
  | .agg parts => uptoBulkAll parts + 1
  | .iface _ d => uptoBulk d + 1
  | .map entries => uptoBulkEntries entries + 1
  | .held _ => 1
def uptoBulkAll {H : Type} : List (DataW H) → Nat
  | [] => 0
  | d :: r => uptoBulk d + uptoBulkAll r
def uptoBulkEntries {H : Type} : List (Lit × DataW H) → Nat
  | [] => 0
  | x :: r => uptoBulkEntry x + uptoBulkEntries r
def uptoBulkEntry {H : Type} : Lit × DataW H → Nat
  | (.string bytes, d) => bytes.length + uptoBulk d + 1
  | (_, d) => uptoBulk d + 1
 end
def uptoSmall : (H : Type) → List (DataW H) → Bool := fun _ ds => decide (uptoBulkAll ds ≤ 1048576)
def OpenSpec.upto (s : _root_.Go.ChangeSpec) : _root_.Go.OpenSpec := { _root_.Go.OpenSpec.ofChange s with cond := some uptoSmall }

/-- 'woodcutlaw06.PathTables', WHERE WHAT IT READS IS OF BULK AT MOST 1048576: true; the input reads as it did. -/
def pathTablesUptoRow : OpenClaim := { program := "ytfkbjniodomdjaadoor", sum := "b5c1ee260e3eb7b2e8789d4677b10512f35059a5eb0ebe8be0607b46bdbc2fc4", func := "woodcut/woodcutlaw06.PathTables", spec := "pathTables", inPlace := ["internal/bytealg.CountString", "internal/bytealg.IndexByteString", "internal/bytealg.IndexString", "slices.overlaps[string]", "slices.overlaps[int]"], unfollowed := true, recurses := true, named := ["unicode/utf8.first", "unicode/utf8.acceptRanges", "internal/bytealg.MaxLen"], apart := false, laid := [("unicode/utf8.acceptRanges", laid_unicode_utf8_acceptRanges), ("unicode/utf8.first", laid_unicode_utf8_first)], narrowed := true }
def PathTablesUptoSaid : Prop := pathTablesUptoRow.holds Tryd.pinned (OpenSpec.upto pathTablesSpec)

/-- 'woodcutlaw10.SerTexts', WHERE WHAT IT READS IS OF BULK AT MOST 1048576: true; the input reads as it did. -/
def serTextsUptoRow : OpenClaim := { program := "ytfkbjniodomdjaadoor", sum := "b5c1ee260e3eb7b2e8789d4677b10512f35059a5eb0ebe8be0607b46bdbc2fc4", func := "woodcut/woodcutlaw10.SerTexts", spec := "serTexts", inPlace := ["slices.overlaps[int]", "internal/bytealg.CountString", "internal/bytealg.IndexByteString", "internal/bytealg.IndexString", "internal/abi.NoEscape", "internal/bytealg.MakeNoZero"], unfollowed := true, recurses := true, named := ["internal/bytealg.MaxLen", "unicode/utf8.first", "unicode/utf8.acceptRanges"], apart := false, laid := [("unicode/utf8.acceptRanges", laid_unicode_utf8_acceptRanges), ("unicode/utf8.first", laid_unicode_utf8_first)], narrowed := true }
def SerTextsUptoSaid : Prop := serTextsUptoRow.holds Tryd.pinned (OpenSpec.upto serTextsSpec)

/-- 'woodcutlaw10.SerWrites', WHERE WHAT IT READS IS OF BULK AT MOST 1048576: true; the input reads as it did. -/
def serWritesUptoRow : OpenClaim := { program := "ytfkbjniodomdjaadoor", sum := "b5c1ee260e3eb7b2e8789d4677b10512f35059a5eb0ebe8be0607b46bdbc2fc4", func := "woodcut/woodcutlaw10.SerWrites", spec := "serWrites", inPlace := ["slices.overlaps[int]", "internal/bytealg.CountString", "internal/bytealg.IndexByteString", "internal/bytealg.IndexString", "internal/abi.NoEscape", "internal/bytealg.MakeNoZero"], unfollowed := true, recurses := true, named := ["internal/bytealg.MaxLen", "unicode/utf8.first", "unicode/utf8.acceptRanges"], apart := false, laid := [("unicode/utf8.acceptRanges", laid_unicode_utf8_acceptRanges), ("unicode/utf8.first", laid_unicode_utf8_first)], narrowed := true }
def SerWritesUptoSaid : Prop := serWritesUptoRow.holds Tryd.pinned (OpenSpec.upto serWritesSpec)

/-- 'woodcutlaw10.SerNames', WHERE WHAT IT READS IS OF BULK AT MOST 1048576: true; the input reads as it did. -/
def serNamesUptoRow : OpenClaim := { program := "ytfkbjniodomdjaadoor", sum := "b5c1ee260e3eb7b2e8789d4677b10512f35059a5eb0ebe8be0607b46bdbc2fc4", func := "woodcut/woodcutlaw10.SerNames", spec := "serNames", inPlace := ["slices.overlaps[int]", "internal/bytealg.CountString", "internal/bytealg.IndexByteString", "internal/bytealg.IndexString", "internal/abi.NoEscape", "internal/bytealg.MakeNoZero"], unfollowed := true, recurses := true, named := ["internal/bytealg.MaxLen", "unicode/utf8.first", "unicode/utf8.acceptRanges"], apart := false, laid := [("unicode/utf8.acceptRanges", laid_unicode_utf8_acceptRanges), ("unicode/utf8.first", laid_unicode_utf8_first)], narrowed := true }
def SerNamesUptoSaid : Prop := serNamesUptoRow.holds Tryd.pinned (OpenSpec.upto serNamesSpec)

/-- 'woodcutlaw10.SerJoins', WHERE WHAT IT READS IS OF BULK AT MOST 1048576: true; the input reads as it did. -/
def serJoinsUptoRow : OpenClaim := { program := "ytfkbjniodomdjaadoor", sum := "b5c1ee260e3eb7b2e8789d4677b10512f35059a5eb0ebe8be0607b46bdbc2fc4", func := "woodcut/woodcutlaw10.SerJoins", spec := "serJoins", inPlace := ["slices.overlaps[int]", "internal/bytealg.CountString", "internal/bytealg.IndexByteString", "internal/bytealg.IndexString", "internal/abi.NoEscape", "internal/bytealg.MakeNoZero"], unfollowed := true, recurses := true, named := ["internal/bytealg.MaxLen", "unicode/utf8.first", "unicode/utf8.acceptRanges"], apart := false, laid := [("unicode/utf8.acceptRanges", laid_unicode_utf8_acceptRanges), ("unicode/utf8.first", laid_unicode_utf8_first)], narrowed := true }
def SerJoinsUptoSaid : Prop := serJoinsUptoRow.holds Tryd.pinned (OpenSpec.upto serJoinsSpec)

end Rows
end Go.Proofs.YtfkbjniodomdjaaDoor
