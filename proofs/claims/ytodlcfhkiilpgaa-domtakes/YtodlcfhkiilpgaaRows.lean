/-
  No cell of these rows narrows 'for every input' (looked for: loops, veiled, ifaces, maps, wideKeys, modest, calm, conditions, laid).
  DERIVED. THE GIVEN ROWS OF THIS SEAT. 7 by the template 'for every input the law returns true; each argument reads behind the call as it read before'; 0 by the template 'total and deterministic' (their statements: YtodlcfhkiilpgaaTotals.lean).
  GIVEN WITH THE SEED: the statements are not yours to turn. If you find one false, say at which input.
  Laid BY PROGRAM, IN A SANDBOX (cutbox-rows.mjs): the forced cells as the released guide's own fill.sh prints them over the translation f6f6e98c3466450b… (all of the seat's roots in one cut). By AI agents, Wed Nov 11 2026. No macro, syntax, notation, axiom, sorry.
-/
import Derived.Test.YtodlcfhkiilpgaaChecked
import GoSem.Claim
import GoSem.ClaimJoined
import GoSem.ClaimMapViews
import Derived.JoinedTies
import Derived.KernelRfl
namespace Go.Proofs.Ytodlcfhkiilpgaa
/- THE CELL 'sum', in the pinned program and in every row, IS THE sha256 OF THE DUMP (.gsa) THAT YtodlcfhkiilpgaaProg.lean LOADS. Nothing in Lean hashes anything: it is a label: what it is worth is what the hold of that sum in a sandbox is worth. -/
noncomputable def Try.pinned : Pinned := { name := "ytodlcfhkiilpgaa", sum := "f6f6e98c3466450b0707dd5bbd473e05ed9380deb0995a675bacc571926b2afa", checked := Try.checked }
namespace Rows
def none {H : Type} : Left H := { results := [], args := [] }

/-- 'woodcutlaw08.DomMany': WHATEVER THE INPUT: true; the input reads as it did. -/
def domManySpec : ChangeSpec := { name := "domMany", fn := fun _ => fun
  | [d] => { results := [.lit (.bool true)], args := [d] }
  | _ => none }
def domManyRow : OpenClaim := { program := "ytodlcfhkiilpgaa", sum := "f6f6e98c3466450b0707dd5bbd473e05ed9380deb0995a675bacc571926b2afa", func := "woodcut/woodcutlaw08.DomMany", spec := "domMany", inPlace := ["slices.overlaps[int]", "internal/abi.NoEscape"], unfollowed := true, recurses := true, apart := false }
def DomManySaid : Prop := domManyRow.holds Try.pinned (OpenSpec.ofChange domManySpec)

/-- ITS FALSE NEIGHBOUR: 'it returns false'. Refute it at one input. -/
def domManyWrong : ChangeSpec := { name := "domMany", fn := fun _ => fun
  | [d] => { results := [.lit (.bool false)], args := [d] }
  | _ => none }
def DomManyWrongFalsely : Prop := domManyRow.holds Try.pinned (OpenSpec.ofChange domManyWrong)

/-- 'woodcutlaw08.DomMoves': WHATEVER THE INPUT: true; the input reads as it did. -/
def domMovesSpec : ChangeSpec := { name := "domMoves", fn := fun _ => fun
  | [d1, d2, d3] => { results := [.lit (.bool true)], args := [d1, d2, d3] }
  | _ => none }
def domMovesRow : OpenClaim := { program := "ytodlcfhkiilpgaa", sum := "f6f6e98c3466450b0707dd5bbd473e05ed9380deb0995a675bacc571926b2afa", func := "woodcut/woodcutlaw08.DomMoves", spec := "domMoves", inPlace := ["slices.overlaps[int]", "internal/abi.NoEscape"], unfollowed := true, recurses := true, apart := false }
def DomMovesSaid : Prop := domMovesRow.holds Try.pinned (OpenSpec.ofChange domMovesSpec)

/-- ITS FALSE NEIGHBOUR: 'it returns false'. Refute it at one input. -/
def domMovesWrong : ChangeSpec := { name := "domMoves", fn := fun _ => fun
  | [d1, d2, d3] => { results := [.lit (.bool false)], args := [d1, d2, d3] }
  | _ => none }
def DomMovesWrongFalsely : Prop := domMovesRow.holds Try.pinned (OpenSpec.ofChange domMovesWrong)

/-- 'woodcutlaw08.DomRuns': WHATEVER THE INPUT: true; the input reads as it did. -/
def domRunsSpec : ChangeSpec := { name := "domRuns", fn := fun _ => fun
  | [d] => { results := [.lit (.bool true)], args := [d] }
  | _ => none }
def domRunsRow : OpenClaim := { program := "ytodlcfhkiilpgaa", sum := "f6f6e98c3466450b0707dd5bbd473e05ed9380deb0995a675bacc571926b2afa", func := "woodcut/woodcutlaw08.DomRuns", spec := "domRuns", inPlace := ["slices.overlaps[int]", "internal/abi.NoEscape"], unfollowed := true, recurses := true, apart := false }
def DomRunsSaid : Prop := domRunsRow.holds Try.pinned (OpenSpec.ofChange domRunsSpec)

/-- ITS FALSE NEIGHBOUR: 'it returns false'. Refute it at one input. -/
def domRunsWrong : ChangeSpec := { name := "domRuns", fn := fun _ => fun
  | [d] => { results := [.lit (.bool false)], args := [d] }
  | _ => none }
def DomRunsWrongFalsely : Prop := domRunsRow.holds Try.pinned (OpenSpec.ofChange domRunsWrong)

/-- 'woodcutlaw08.DomSame': WHATEVER THE INPUT: true; the input reads as it did. -/
def domSameSpec : ChangeSpec := { name := "domSame", fn := fun _ => fun
  | [d1, d2, d3] => { results := [.lit (.bool true)], args := [d1, d2, d3] }
  | _ => none }
def domSameRow : OpenClaim := { program := "ytodlcfhkiilpgaa", sum := "f6f6e98c3466450b0707dd5bbd473e05ed9380deb0995a675bacc571926b2afa", func := "woodcut/woodcutlaw08.DomSame", spec := "domSame", inPlace := ["slices.overlaps[int]", "internal/abi.NoEscape"], unfollowed := true, recurses := true, apart := false }
def DomSameSaid : Prop := domSameRow.holds Try.pinned (OpenSpec.ofChange domSameSpec)

/-- ITS FALSE NEIGHBOUR: 'it returns false'. Refute it at one input. -/
def domSameWrong : ChangeSpec := { name := "domSame", fn := fun _ => fun
  | [d1, d2, d3] => { results := [.lit (.bool false)], args := [d1, d2, d3] }
  | _ => none }
def DomSameWrongFalsely : Prop := domSameRow.holds Try.pinned (OpenSpec.ofChange domSameWrong)

/-- 'woodcutlaw08.DomTakes': WHATEVER THE INPUT: true; the input reads as it did. -/
def domTakesSpec : ChangeSpec := { name := "domTakes", fn := fun _ => fun
  | [d1, d2] => { results := [.lit (.bool true)], args := [d1, d2] }
  | _ => none }
def domTakesRow : OpenClaim := { program := "ytodlcfhkiilpgaa", sum := "f6f6e98c3466450b0707dd5bbd473e05ed9380deb0995a675bacc571926b2afa", func := "woodcut/woodcutlaw08.DomTakes", spec := "domTakes", inPlace := ["slices.overlaps[int]", "internal/abi.NoEscape"], unfollowed := true, recurses := true, apart := false }
def DomTakesSaid : Prop := domTakesRow.holds Try.pinned (OpenSpec.ofChange domTakesSpec)

/-- ITS FALSE NEIGHBOUR: 'it returns false'. Refute it at one input. -/
def domTakesWrong : ChangeSpec := { name := "domTakes", fn := fun _ => fun
  | [d1, d2] => { results := [.lit (.bool false)], args := [d1, d2] }
  | _ => none }
def DomTakesWrongFalsely : Prop := domTakesRow.holds Try.pinned (OpenSpec.ofChange domTakesWrong)

/-- 'woodcutlaw08.DomWalks': WHATEVER THE INPUT: true; the input reads as it did. -/
def domWalksSpec : ChangeSpec := { name := "domWalks", fn := fun _ => fun
  | [d1, d2, d3] => { results := [.lit (.bool true)], args := [d1, d2, d3] }
  | _ => none }
def domWalksRow : OpenClaim := { program := "ytodlcfhkiilpgaa", sum := "f6f6e98c3466450b0707dd5bbd473e05ed9380deb0995a675bacc571926b2afa", func := "woodcut/woodcutlaw08.DomWalks", spec := "domWalks", inPlace := ["slices.overlaps[int]", "internal/abi.NoEscape"], unfollowed := true, recurses := true, apart := false }
def DomWalksSaid : Prop := domWalksRow.holds Try.pinned (OpenSpec.ofChange domWalksSpec)

/-- ITS FALSE NEIGHBOUR: 'it returns false'. Refute it at one input. -/
def domWalksWrong : ChangeSpec := { name := "domWalks", fn := fun _ => fun
  | [d1, d2, d3] => { results := [.lit (.bool false)], args := [d1, d2, d3] }
  | _ => none }
def DomWalksWrongFalsely : Prop := domWalksRow.holds Try.pinned (OpenSpec.ofChange domWalksWrong)

/-- 'woodcutlaw11.OpenAlike': WHATEVER THE INPUT: true; the input reads as it did. -/
def openAlikeSpec : ChangeSpec := { name := "openAlike", fn := fun _ => fun
  | [d1, d2, d3] => { results := [.lit (.bool true)], args := [d1, d2, d3] }
  | _ => none }
def openAlikeRow : OpenClaim := { program := "ytodlcfhkiilpgaa", sum := "f6f6e98c3466450b0707dd5bbd473e05ed9380deb0995a675bacc571926b2afa", func := "woodcut/woodcutlaw11.OpenAlike", spec := "openAlike", unfollowed := true, recurses := true, apart := false }
def OpenAlikeSaid : Prop := openAlikeRow.holds Try.pinned (OpenSpec.ofChange openAlikeSpec)

/-- ITS FALSE NEIGHBOUR: 'it returns false'. Refute it at one input. -/
def openAlikeWrong : ChangeSpec := { name := "openAlike", fn := fun _ => fun
  | [d1, d2, d3] => { results := [.lit (.bool false)], args := [d1, d2, d3] }
  | _ => none }
def OpenAlikeWrongFalsely : Prop := openAlikeRow.holds Try.pinned (OpenSpec.ofChange openAlikeWrong)

/- THE SECOND FORM. 'bulk': how many values and letters a reading holds, each counted each time it is reached (what is shared counts as often as it is met; a slice's spare places count too). A statement '..UptoSaid' is the law's where the arguments, and the package variables that the reading takes, are together of bulk at most 1048576: NARROWER than '..Said'. Prove '..Said' where nothing that the law and all that it calls make is longer than what came in: it says more and counts as full. Else prove '..UptoSaid'. A law counts once. -/
mutual
def uptoBulk {H : Type} : DataW H → Nat
  | .lit (.string bytes) => bytes.length + 1
  | .lit _ => 1
  | .nil => 1
  | .ptr d => uptoBulk d + 1
  | .slice elems spare => uptoBulkAll elems + uptoBulkAll spare + 1
  | .agg parts => uptoBulkAll parts + 1
  | .iface _ d => uptoBulk d + 1
  | .map entries => uptoBulkEntries entries + 1
  | .held _ => 1
def uptoBulkAll {H : Type} : List (DataW H) → Nat
  | [] => 0
  | d :: r => uptoBulk d + uptoBulkAll r
def uptoBulkEntries {H : Type} : List (Lit × DataW H) → Nat
  | [] => 0
  | x :: r => uptoBulkEntry x + uptoBulkEntries r
def uptoBulkEntry {H : Type} : Lit × DataW H → Nat
  | (.string bytes, d) => bytes.length + uptoBulk d + 1
  | (_, d) => uptoBulk d + 1
 end
def uptoSmall : (H : Type) → List (DataW H) → Bool := fun _ ds => decide (uptoBulkAll ds ≤ 1048576)
def OpenSpec.upto (s : _root_.Go.ChangeSpec) : _root_.Go.OpenSpec := { _root_.Go.OpenSpec.ofChange s with cond := some uptoSmall }

/-- 'woodcutlaw08.DomMany', WHERE WHAT IT READS IS OF BULK AT MOST 1048576: true; the input reads as it did. -/
def domManyUptoRow : OpenClaim := { program := "ytodlcfhkiilpgaa", sum := "f6f6e98c3466450b0707dd5bbd473e05ed9380deb0995a675bacc571926b2afa", func := "woodcut/woodcutlaw08.DomMany", spec := "domMany", inPlace := ["slices.overlaps[int]", "internal/abi.NoEscape"], unfollowed := true, recurses := true, apart := false, narrowed := true }
def DomManyUptoSaid : Prop := domManyUptoRow.holds Try.pinned (OpenSpec.upto domManySpec)

/-- 'woodcutlaw08.DomMoves', WHERE WHAT IT READS IS OF BULK AT MOST 1048576: true; the input reads as it did. -/
def domMovesUptoRow : OpenClaim := { program := "ytodlcfhkiilpgaa", sum := "f6f6e98c3466450b0707dd5bbd473e05ed9380deb0995a675bacc571926b2afa", func := "woodcut/woodcutlaw08.DomMoves", spec := "domMoves", inPlace := ["slices.overlaps[int]", "internal/abi.NoEscape"], unfollowed := true, recurses := true, apart := false, narrowed := true }
def DomMovesUptoSaid : Prop := domMovesUptoRow.holds Try.pinned (OpenSpec.upto domMovesSpec)

/-- 'woodcutlaw08.DomRuns', WHERE WHAT IT READS IS OF BULK AT MOST 1048576: true; the input reads as it did. -/
def domRunsUptoRow : OpenClaim := { program := "ytodlcfhkiilpgaa", sum := "f6f6e98c3466450b0707dd5bbd473e05ed9380deb0995a675bacc571926b2afa", func := "woodcut/woodcutlaw08.DomRuns", spec := "domRuns", inPlace := ["slices.overlaps[int]", "internal/abi.NoEscape"], unfollowed := true, recurses := true, apart := false, narrowed := true }
def DomRunsUptoSaid : Prop := domRunsUptoRow.holds Try.pinned (OpenSpec.upto domRunsSpec)

/-- 'woodcutlaw08.DomSame', WHERE WHAT IT READS IS OF BULK AT MOST 1048576: true; the input reads as it did. -/
def domSameUptoRow : OpenClaim := { program := "ytodlcfhkiilpgaa", sum := "f6f6e98c3466450b0707dd5bbd473e05ed9380deb0995a675bacc571926b2afa", func := "woodcut/woodcutlaw08.DomSame", spec := "domSame", inPlace := ["slices.overlaps[int]", "internal/abi.NoEscape"], unfollowed := true, recurses := true, apart := false, narrowed := true }
def DomSameUptoSaid : Prop := domSameUptoRow.holds Try.pinned (OpenSpec.upto domSameSpec)

/-- 'woodcutlaw08.DomTakes', WHERE WHAT IT READS IS OF BULK AT MOST 1048576: true; the input reads as it did. -/
def domTakesUptoRow : OpenClaim := { program := "ytodlcfhkiilpgaa", sum := "f6f6e98c3466450b0707dd5bbd473e05ed9380deb0995a675bacc571926b2afa", func := "woodcut/woodcutlaw08.DomTakes", spec := "domTakes", inPlace := ["slices.overlaps[int]", "internal/abi.NoEscape"], unfollowed := true, recurses := true, apart := false, narrowed := true }
def DomTakesUptoSaid : Prop := domTakesUptoRow.holds Try.pinned (OpenSpec.upto domTakesSpec)

/-- 'woodcutlaw08.DomWalks', WHERE WHAT IT READS IS OF BULK AT MOST 1048576: true; the input reads as it did. -/
def domWalksUptoRow : OpenClaim := { program := "ytodlcfhkiilpgaa", sum := "f6f6e98c3466450b0707dd5bbd473e05ed9380deb0995a675bacc571926b2afa", func := "woodcut/woodcutlaw08.DomWalks", spec := "domWalks", inPlace := ["slices.overlaps[int]", "internal/abi.NoEscape"], unfollowed := true, recurses := true, apart := false, narrowed := true }
def DomWalksUptoSaid : Prop := domWalksUptoRow.holds Try.pinned (OpenSpec.upto domWalksSpec)

/-- 'woodcutlaw11.OpenAlike', WHERE WHAT IT READS IS OF BULK AT MOST 1048576: true; the input reads as it did. -/
def openAlikeUptoRow : OpenClaim := { program := "ytodlcfhkiilpgaa", sum := "f6f6e98c3466450b0707dd5bbd473e05ed9380deb0995a675bacc571926b2afa", func := "woodcut/woodcutlaw11.OpenAlike", spec := "openAlike", unfollowed := true, recurses := true, apart := false, narrowed := true }
def OpenAlikeUptoSaid : Prop := openAlikeUptoRow.holds Try.pinned (OpenSpec.upto openAlikeSpec)

end Rows
end Go.Proofs.Ytodlcfhkiilpgaa
