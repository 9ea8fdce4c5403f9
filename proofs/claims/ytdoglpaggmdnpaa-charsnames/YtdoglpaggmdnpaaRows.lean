/-
  No cell of these rows narrows 'for every input' (looked for: loops, veiled, ifaces, maps, wideKeys, modest, calm, conditions, laid).
  DERIVED. THE GIVEN ROWS OF THIS SEAT. 7 by the template 'for every input the law returns true; each argument reads behind the call as it read before'; 0 by the template 'total and deterministic' (their statements: YtdoglpaggmdnpaaTotals.lean).
  GIVEN WITH THE SEED: the statements are not yours to turn. If you find one false, say at which input.
  Laid BY PROGRAM, IN A SANDBOX (cutbox-rows.mjs): the forced cells as the released guide's own fill.sh prints them over the translation 74687372afd1b58e… (all of the seat's roots in one cut). By AI agents, Wed Nov 11 2026. No macro, syntax, notation, axiom, sorry.
-/
import Derived.Test.YtdoglpaggmdnpaaChecked
import GoSem.Claim
import GoSem.ClaimJoined
import GoSem.ClaimMapViews
import Derived.JoinedTies
import Derived.KernelRfl
namespace Go.Proofs.Ytdoglpaggmdnpaa
/- THE CELL 'sum', in the pinned program and in every row, IS THE sha256 OF THE DUMP (.gsa) THAT YtdoglpaggmdnpaaProg.lean LOADS. Nothing in Lean hashes anything: it is a label: what it is worth is what the hold of that sum in a sandbox is worth. -/
noncomputable def Try.pinned : Pinned := { name := "ytdoglpaggmdnpaa", sum := "74687372afd1b58e409a2df99fef39b69db0d43730d6ddc713304ce652f4dc3a", checked := Try.checked }
namespace Rows
def none {H : Type} : Left H := { results := [], args := [] }

/-- 'woodcutlaw01.TextSigns': WHATEVER THE INPUT: true; the input reads as it did. -/
def textSignsSpec : ChangeSpec := { name := "textSigns", fn := fun _ => fun
  | [d1, d2] => { results := [.lit (.bool true)], args := [d1, d2] }
  | _ => none }
def textSignsRow : OpenClaim := { program := "ytdoglpaggmdnpaa", sum := "74687372afd1b58e409a2df99fef39b69db0d43730d6ddc713304ce652f4dc3a", func := "woodcut/woodcutlaw01.TextSigns", spec := "textSigns", unfollowed := true, recurses := true, apart := false }
def TextSignsSaid : Prop := textSignsRow.holds Try.pinned (OpenSpec.ofChange textSignsSpec)

/-- ITS FALSE NEIGHBOUR: 'it returns false'. Refute it at one input. -/
def textSignsWrong : ChangeSpec := { name := "textSigns", fn := fun _ => fun
  | [d1, d2] => { results := [.lit (.bool false)], args := [d1, d2] }
  | _ => none }
def TextSignsWrongFalsely : Prop := textSignsRow.holds Try.pinned (OpenSpec.ofChange textSignsWrong)

/-- 'woodcutlaw01.TextDecodes': WHATEVER THE INPUT: true; the input reads as it did. -/
def textDecodesSpec : ChangeSpec := { name := "textDecodes", fn := fun _ => fun
  | [d] => { results := [.lit (.bool true)], args := [d] }
  | _ => none }
def textDecodesRow : OpenClaim := { program := "ytdoglpaggmdnpaa", sum := "74687372afd1b58e409a2df99fef39b69db0d43730d6ddc713304ce652f4dc3a", func := "woodcut/woodcutlaw01.TextDecodes", spec := "textDecodes", unfollowed := true, recurses := true, apart := false }
def TextDecodesSaid : Prop := textDecodesRow.holds Try.pinned (OpenSpec.ofChange textDecodesSpec)

/-- ITS FALSE NEIGHBOUR: 'it returns false'. Refute it at one input. -/
def textDecodesWrong : ChangeSpec := { name := "textDecodes", fn := fun _ => fun
  | [d] => { results := [.lit (.bool false)], args := [d] }
  | _ => none }
def TextDecodesWrongFalsely : Prop := textDecodesRow.holds Try.pinned (OpenSpec.ofChange textDecodesWrong)

/-- 'woodcutlaw01.TextEncodes': WHATEVER THE INPUT: true; the input reads as it did. -/
def textEncodesSpec : ChangeSpec := { name := "textEncodes", fn := fun _ => fun
  | [d] => { results := [.lit (.bool true)], args := [d] }
  | _ => none }
def textEncodesRow : OpenClaim := { program := "ytdoglpaggmdnpaa", sum := "74687372afd1b58e409a2df99fef39b69db0d43730d6ddc713304ce652f4dc3a", func := "woodcut/woodcutlaw01.TextEncodes", spec := "textEncodes", unfollowed := true, recurses := true, apart := false }
def TextEncodesSaid : Prop := textEncodesRow.holds Try.pinned (OpenSpec.ofChange textEncodesSpec)

/-- ITS FALSE NEIGHBOUR: 'it returns false'. Refute it at one input. -/
def textEncodesWrong : ChangeSpec := { name := "textEncodes", fn := fun _ => fun
  | [d] => { results := [.lit (.bool false)], args := [d] }
  | _ => none }
def TextEncodesWrongFalsely : Prop := textEncodesRow.holds Try.pinned (OpenSpec.ofChange textEncodesWrong)

/-- 'woodcutlaw01.TextKinds': WHATEVER THE INPUT: true; the input reads as it did. -/
def textKindsSpec : ChangeSpec := { name := "textKinds", fn := fun _ => fun
  | [d] => { results := [.lit (.bool true)], args := [d] }
  | _ => none }
def textKindsRow : OpenClaim := { program := "ytdoglpaggmdnpaa", sum := "74687372afd1b58e409a2df99fef39b69db0d43730d6ddc713304ce652f4dc3a", func := "woodcut/woodcutlaw01.TextKinds", spec := "textKinds", unfollowed := true, recurses := true, apart := false }
def TextKindsSaid : Prop := textKindsRow.holds Try.pinned (OpenSpec.ofChange textKindsSpec)

/-- ITS FALSE NEIGHBOUR: 'it returns false'. Refute it at one input. -/
def textKindsWrong : ChangeSpec := { name := "textKinds", fn := fun _ => fun
  | [d] => { results := [.lit (.bool false)], args := [d] }
  | _ => none }
def TextKindsWrongFalsely : Prop := textKindsRow.holds Try.pinned (OpenSpec.ofChange textKindsWrong)

/-- 'woodcutlaw01.TextRound': WHATEVER THE INPUT: true; the input reads as it did. -/
def textRoundSpec : ChangeSpec := { name := "textRound", fn := fun _ => fun
  | [d] => { results := [.lit (.bool true)], args := [d] }
  | _ => none }
def textRoundRow : OpenClaim := { program := "ytdoglpaggmdnpaa", sum := "74687372afd1b58e409a2df99fef39b69db0d43730d6ddc713304ce652f4dc3a", func := "woodcut/woodcutlaw01.TextRound", spec := "textRound", unfollowed := true, recurses := true, apart := false }
def TextRoundSaid : Prop := textRoundRow.holds Try.pinned (OpenSpec.ofChange textRoundSpec)

/-- ITS FALSE NEIGHBOUR: 'it returns false'. Refute it at one input. -/
def textRoundWrong : ChangeSpec := { name := "textRound", fn := fun _ => fun
  | [d] => { results := [.lit (.bool false)], args := [d] }
  | _ => none }
def TextRoundWrongFalsely : Prop := textRoundRow.holds Try.pinned (OpenSpec.ofChange textRoundWrong)

/-- 'woodcutlaw02.CharsNames': WHATEVER THE INPUT: true; the input reads as it did. -/
def charsNamesSpec : ChangeSpec := { name := "charsNames", fn := fun _ => fun
  | [d] => { results := [.lit (.bool true)], args := [d] }
  | _ => none }
def charsNamesRow : OpenClaim := { program := "ytdoglpaggmdnpaa", sum := "74687372afd1b58e409a2df99fef39b69db0d43730d6ddc713304ce652f4dc3a", func := "woodcut/woodcutlaw02.CharsNames", spec := "charsNames", apart := false }
def CharsNamesSaid : Prop := charsNamesRow.holds Try.pinned (OpenSpec.ofChange charsNamesSpec)

/-- ITS FALSE NEIGHBOUR: 'it returns false'. Refute it at one input. -/
def charsNamesWrong : ChangeSpec := { name := "charsNames", fn := fun _ => fun
  | [d] => { results := [.lit (.bool false)], args := [d] }
  | _ => none }
def CharsNamesWrongFalsely : Prop := charsNamesRow.holds Try.pinned (OpenSpec.ofChange charsNamesWrong)

/-- 'woodcutlaw02.CharsMatches': WHATEVER THE INPUT: true; the input reads as it did. -/
def charsMatchesSpec : ChangeSpec := { name := "charsMatches", fn := fun _ => fun
  | [d] => { results := [.lit (.bool true)], args := [d] }
  | _ => none }
def charsMatchesRow : OpenClaim := { program := "ytdoglpaggmdnpaa", sum := "74687372afd1b58e409a2df99fef39b69db0d43730d6ddc713304ce652f4dc3a", func := "woodcut/woodcutlaw02.CharsMatches", spec := "charsMatches", apart := false }
def CharsMatchesSaid : Prop := charsMatchesRow.holds Try.pinned (OpenSpec.ofChange charsMatchesSpec)

/-- ITS FALSE NEIGHBOUR: 'it returns false'. Refute it at one input. -/
def charsMatchesWrong : ChangeSpec := { name := "charsMatches", fn := fun _ => fun
  | [d] => { results := [.lit (.bool false)], args := [d] }
  | _ => none }
def CharsMatchesWrongFalsely : Prop := charsMatchesRow.holds Try.pinned (OpenSpec.ofChange charsMatchesWrong)

/- THE SECOND FORM. 'bulk': how many values and letters a reading holds, each counted each time it is reached (what is shared counts as often as it is met; a slice's spare places count too). A statement '..UptoSaid' is the law's where the arguments, and the package variables that the reading takes, are together of bulk at most 1048576: NARROWER than '..Said'. Prove '..Said' where nothing that the law and all that it calls make is longer than what came in: it says more and counts as full. Else prove '..UptoSaid'. A law counts once. -/
mutual
def uptoBulk {H : Type} : DataW H → Nat
  | .lit (.string bytes) => bytes.length + 1
  | .lit _ => 1
  | .nil => 1
  | .ptr d => uptoBulk d + 1
  | .slice elems spare => uptoBulkAll elems + uptoBulkAll spare + 1
  | .agg parts => uptoBulkAll parts + 1
  | .iface _ d => uptoBulk d + 1
  | .map entries => uptoBulkEntries entries + 1
  | .held _ => 1
def uptoBulkAll {H : Type} : List (DataW H) → Nat
  | [] => 0
  | d :: r => uptoBulk d + uptoBulkAll r
def uptoBulkEntries {H : Type} : List (Lit × DataW H) → Nat
  | [] => 0
  | x :: r => uptoBulkEntry x + uptoBulkEntries r
def uptoBulkEntry {H : Type} : Lit × DataW H → Nat
  | (.string bytes, d) => bytes.length + uptoBulk d + 1
  | (_, d) => uptoBulk d + 1
 end
def uptoSmall : (H : Type) → List (DataW H) → Bool := fun _ ds => decide (uptoBulkAll ds ≤ 1048576)
def OpenSpec.upto (s : _root_.Go.ChangeSpec) : _root_.Go.OpenSpec := { _root_.Go.OpenSpec.ofChange s with cond := some uptoSmall }

/-- 'woodcutlaw01.TextSigns', WHERE WHAT IT READS IS OF BULK AT MOST 1048576: true; the input reads as it did. -/
def textSignsUptoRow : OpenClaim := { program := "ytdoglpaggmdnpaa", sum := "74687372afd1b58e409a2df99fef39b69db0d43730d6ddc713304ce652f4dc3a", func := "woodcut/woodcutlaw01.TextSigns", spec := "textSigns", unfollowed := true, recurses := true, apart := false, narrowed := true }
def TextSignsUptoSaid : Prop := textSignsUptoRow.holds Try.pinned (OpenSpec.upto textSignsSpec)

/-- 'woodcutlaw01.TextDecodes', WHERE WHAT IT READS IS OF BULK AT MOST 1048576: true; the input reads as it did. -/
def textDecodesUptoRow : OpenClaim := { program := "ytdoglpaggmdnpaa", sum := "74687372afd1b58e409a2df99fef39b69db0d43730d6ddc713304ce652f4dc3a", func := "woodcut/woodcutlaw01.TextDecodes", spec := "textDecodes", unfollowed := true, recurses := true, apart := false, narrowed := true }
def TextDecodesUptoSaid : Prop := textDecodesUptoRow.holds Try.pinned (OpenSpec.upto textDecodesSpec)

/-- 'woodcutlaw01.TextEncodes', WHERE WHAT IT READS IS OF BULK AT MOST 1048576: true; the input reads as it did. -/
def textEncodesUptoRow : OpenClaim := { program := "ytdoglpaggmdnpaa", sum := "74687372afd1b58e409a2df99fef39b69db0d43730d6ddc713304ce652f4dc3a", func := "woodcut/woodcutlaw01.TextEncodes", spec := "textEncodes", unfollowed := true, recurses := true, apart := false, narrowed := true }
def TextEncodesUptoSaid : Prop := textEncodesUptoRow.holds Try.pinned (OpenSpec.upto textEncodesSpec)

/-- 'woodcutlaw01.TextKinds', WHERE WHAT IT READS IS OF BULK AT MOST 1048576: true; the input reads as it did. -/
def textKindsUptoRow : OpenClaim := { program := "ytdoglpaggmdnpaa", sum := "74687372afd1b58e409a2df99fef39b69db0d43730d6ddc713304ce652f4dc3a", func := "woodcut/woodcutlaw01.TextKinds", spec := "textKinds", unfollowed := true, recurses := true, apart := false, narrowed := true }
def TextKindsUptoSaid : Prop := textKindsUptoRow.holds Try.pinned (OpenSpec.upto textKindsSpec)

/-- 'woodcutlaw01.TextRound', WHERE WHAT IT READS IS OF BULK AT MOST 1048576: true; the input reads as it did. -/
def textRoundUptoRow : OpenClaim := { program := "ytdoglpaggmdnpaa", sum := "74687372afd1b58e409a2df99fef39b69db0d43730d6ddc713304ce652f4dc3a", func := "woodcut/woodcutlaw01.TextRound", spec := "textRound", unfollowed := true, recurses := true, apart := false, narrowed := true }
def TextRoundUptoSaid : Prop := textRoundUptoRow.holds Try.pinned (OpenSpec.upto textRoundSpec)

/-- 'woodcutlaw02.CharsNames', WHERE WHAT IT READS IS OF BULK AT MOST 1048576: true; the input reads as it did. -/
def charsNamesUptoRow : OpenClaim := { program := "ytdoglpaggmdnpaa", sum := "74687372afd1b58e409a2df99fef39b69db0d43730d6ddc713304ce652f4dc3a", func := "woodcut/woodcutlaw02.CharsNames", spec := "charsNames", apart := false, narrowed := true }
def CharsNamesUptoSaid : Prop := charsNamesUptoRow.holds Try.pinned (OpenSpec.upto charsNamesSpec)

/-- 'woodcutlaw02.CharsMatches', WHERE WHAT IT READS IS OF BULK AT MOST 1048576: true; the input reads as it did. -/
def charsMatchesUptoRow : OpenClaim := { program := "ytdoglpaggmdnpaa", sum := "74687372afd1b58e409a2df99fef39b69db0d43730d6ddc713304ce652f4dc3a", func := "woodcut/woodcutlaw02.CharsMatches", spec := "charsMatches", apart := false, narrowed := true }
def CharsMatchesUptoSaid : Prop := charsMatchesUptoRow.holds Try.pinned (OpenSpec.upto charsMatchesSpec)

end Rows
end Go.Proofs.Ytdoglpaggmdnpaa
