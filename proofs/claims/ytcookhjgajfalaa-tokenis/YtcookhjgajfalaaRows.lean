/-
  No cell of these rows narrows 'for every input' (looked for: loops, veiled, ifaces, maps, wideKeys, modest, calm, conditions, laid).
  DERIVED. THE GIVEN ROWS OF THIS SEAT. 6 by the template 'for every input the law returns true; each argument reads behind the call as it read before'; 0 by the template 'total and deterministic' (their statements: YtcookhjgajfalaaTotals.lean).
  GIVEN WITH THE SEED: the statements are not yours to turn. If you find one false, say at which input.
  Laid BY PROGRAM, IN A SANDBOX (cutbox-rows.mjs): the forced cells as the released guide's own fill.sh prints them over the translation 53b825e39a0f92c6… (all of the seat's roots in one cut). By AI agents, Wed Nov 11 2026. No macro, syntax, notation, axiom, sorry.
-/
import Derived.Test.YtcookhjgajfalaaChecked
import GoSem.Claim
import GoSem.ClaimJoined
import GoSem.ClaimMapViews
import Derived.JoinedTies
import Derived.KernelRfl
namespace Go.Proofs.Ytcookhjgajfalaa
/- THE CELL 'sum', in the pinned program and in every row, IS THE sha256 OF THE DUMP (.gsa) THAT YtcookhjgajfalaaProg.lean LOADS. Nothing in Lean hashes anything: it is a label: what it is worth is what the hold of that sum in a sandbox is worth. -/
noncomputable def Try.pinned : Pinned := { name := "ytcookhjgajfalaa", sum := "53b825e39a0f92c6919d26976a0e885ae6b334a344b883dc7ae55ce60bef6f47", checked := Try.checked }
namespace Rows
def none {H : Type} : Left H := { results := [], args := [] }

/-- 'woodcutlaw05.FrameAlls': WHATEVER THE INPUT: true; the input reads as it did. -/
def frameAllsSpec : ChangeSpec := { name := "frameAlls", fn := fun _ => fun
  | [d1, d2, d3] => { results := [.lit (.bool true)], args := [d1, d2, d3] }
  | _ => none }
def frameAllsRow : OpenClaim := { program := "ytcookhjgajfalaa", sum := "53b825e39a0f92c6919d26976a0e885ae6b334a344b883dc7ae55ce60bef6f47", func := "woodcut/woodcutlaw05.FrameAlls", spec := "frameAlls", unfollowed := true, recurses := true, apart := false }
def FrameAllsSaid : Prop := frameAllsRow.holds Try.pinned (OpenSpec.ofChange frameAllsSpec)

/-- ITS FALSE NEIGHBOUR: 'it returns false'. Refute it at one input. -/
def frameAllsWrong : ChangeSpec := { name := "frameAlls", fn := fun _ => fun
  | [d1, d2, d3] => { results := [.lit (.bool false)], args := [d1, d2, d3] }
  | _ => none }
def FrameAllsWrongFalsely : Prop := frameAllsRow.holds Try.pinned (OpenSpec.ofChange frameAllsWrong)

/-- 'woodcutlaw07.TokenAttrs': WHATEVER THE INPUT: true; the input reads as it did. -/
def tokenAttrsSpec : ChangeSpec := { name := "tokenAttrs", fn := fun _ => fun
  | [d1, d2, d3] => { results := [.lit (.bool true)], args := [d1, d2, d3] }
  | _ => none }
def tokenAttrsRow : OpenClaim := { program := "ytcookhjgajfalaa", sum := "53b825e39a0f92c6919d26976a0e885ae6b334a344b883dc7ae55ce60bef6f47", func := "woodcut/woodcutlaw07.TokenAttrs", spec := "tokenAttrs", inPlace := ["internal/abi.NoEscape"], unfollowed := true, recurses := true, apart := false }
def TokenAttrsSaid : Prop := tokenAttrsRow.holds Try.pinned (OpenSpec.ofChange tokenAttrsSpec)

/-- ITS FALSE NEIGHBOUR: 'it returns false'. Refute it at one input. -/
def tokenAttrsWrong : ChangeSpec := { name := "tokenAttrs", fn := fun _ => fun
  | [d1, d2, d3] => { results := [.lit (.bool false)], args := [d1, d2, d3] }
  | _ => none }
def TokenAttrsWrongFalsely : Prop := tokenAttrsRow.holds Try.pinned (OpenSpec.ofChange tokenAttrsWrong)

/-- 'woodcutlaw07.TokenAlike': WHATEVER THE INPUT: true; the input reads as it did. -/
def tokenAlikeSpec : ChangeSpec := { name := "tokenAlike", fn := fun _ => fun
  | [d1, d2, d3] => { results := [.lit (.bool true)], args := [d1, d2, d3] }
  | _ => none }
def tokenAlikeRow : OpenClaim := { program := "ytcookhjgajfalaa", sum := "53b825e39a0f92c6919d26976a0e885ae6b334a344b883dc7ae55ce60bef6f47", func := "woodcut/woodcutlaw07.TokenAlike", spec := "tokenAlike", inPlace := ["internal/abi.NoEscape"], apart := false }
def TokenAlikeSaid : Prop := tokenAlikeRow.holds Try.pinned (OpenSpec.ofChange tokenAlikeSpec)

/-- ITS FALSE NEIGHBOUR: 'it returns false'. Refute it at one input. -/
def tokenAlikeWrong : ChangeSpec := { name := "tokenAlike", fn := fun _ => fun
  | [d1, d2, d3] => { results := [.lit (.bool false)], args := [d1, d2, d3] }
  | _ => none }
def TokenAlikeWrongFalsely : Prop := tokenAlikeRow.holds Try.pinned (OpenSpec.ofChange tokenAlikeWrong)

/-- 'woodcutlaw07.TokenSame': WHATEVER THE INPUT: true; the input reads as it did. -/
def tokenSameSpec : ChangeSpec := { name := "tokenSame", fn := fun _ => fun
  | [d1, d2] => { results := [.lit (.bool true)], args := [d1, d2] }
  | _ => none }
def tokenSameRow : OpenClaim := { program := "ytcookhjgajfalaa", sum := "53b825e39a0f92c6919d26976a0e885ae6b334a344b883dc7ae55ce60bef6f47", func := "woodcut/woodcutlaw07.TokenSame", spec := "tokenSame", inPlace := ["internal/abi.NoEscape"], apart := false }
def TokenSameSaid : Prop := tokenSameRow.holds Try.pinned (OpenSpec.ofChange tokenSameSpec)

/-- ITS FALSE NEIGHBOUR: 'it returns false'. Refute it at one input. -/
def tokenSameWrong : ChangeSpec := { name := "tokenSame", fn := fun _ => fun
  | [d1, d2] => { results := [.lit (.bool false)], args := [d1, d2] }
  | _ => none }
def TokenSameWrongFalsely : Prop := tokenSameRow.holds Try.pinned (OpenSpec.ofChange tokenSameWrong)

/-- 'woodcutlaw07.TokenIs': WHATEVER THE INPUT: true; the input reads as it did. -/
def tokenIsSpec : ChangeSpec := { name := "tokenIs", fn := fun _ => fun
  | [d1, d2, d3] => { results := [.lit (.bool true)], args := [d1, d2, d3] }
  | _ => none }
def tokenIsRow : OpenClaim := { program := "ytcookhjgajfalaa", sum := "53b825e39a0f92c6919d26976a0e885ae6b334a344b883dc7ae55ce60bef6f47", func := "woodcut/woodcutlaw07.TokenIs", spec := "tokenIs", inPlace := ["internal/abi.NoEscape"], apart := false }
def TokenIsSaid : Prop := tokenIsRow.holds Try.pinned (OpenSpec.ofChange tokenIsSpec)

/-- ITS FALSE NEIGHBOUR: 'it returns false'. Refute it at one input. -/
def tokenIsWrong : ChangeSpec := { name := "tokenIs", fn := fun _ => fun
  | [d1, d2, d3] => { results := [.lit (.bool false)], args := [d1, d2, d3] }
  | _ => none }
def TokenIsWrongFalsely : Prop := tokenIsRow.holds Try.pinned (OpenSpec.ofChange tokenIsWrong)

/-- 'woodcutlaw07.TokenTwice': WHATEVER THE INPUT: true; the input reads as it did. -/
def tokenTwiceSpec : ChangeSpec := { name := "tokenTwice", fn := fun _ => fun
  | [d1, d2, d3] => { results := [.lit (.bool true)], args := [d1, d2, d3] }
  | _ => none }
def tokenTwiceRow : OpenClaim := { program := "ytcookhjgajfalaa", sum := "53b825e39a0f92c6919d26976a0e885ae6b334a344b883dc7ae55ce60bef6f47", func := "woodcut/woodcutlaw07.TokenTwice", spec := "tokenTwice", inPlace := ["internal/abi.NoEscape"], unfollowed := true, recurses := true, apart := false }
def TokenTwiceSaid : Prop := tokenTwiceRow.holds Try.pinned (OpenSpec.ofChange tokenTwiceSpec)

/-- ITS FALSE NEIGHBOUR: 'it returns false'. Refute it at one input. -/
def tokenTwiceWrong : ChangeSpec := { name := "tokenTwice", fn := fun _ => fun
  | [d1, d2, d3] => { results := [.lit (.bool false)], args := [d1, d2, d3] }
  | _ => none }
def TokenTwiceWrongFalsely : Prop := tokenTwiceRow.holds Try.pinned (OpenSpec.ofChange tokenTwiceWrong)

/- THE SECOND FORM. 'bulk': how many values and letters a reading holds, each counted each time it is reached (what is shared counts as often as it is met; a slice's spare places count too). A statement '..UptoSaid' is the law's where the arguments, and the package variables that the reading takes, are together of bulk at most 1048576: NARROWER than '..Said'. Prove '..Said' where nothing that the law and all that it calls make is longer than what came in: it says more and counts as full. Else prove '..UptoSaid'. A law counts once. -/
mutual
def uptoBulk {H : Type} : DataW H → Nat
  | .lit (.string bytes) => bytes.length + 1
  | .lit _ => 1
  | .nil => 1
  | .ptr d => uptoBulk d + 1
  | .slice elems spare => uptoBulkAll elems + uptoBulkAll spare + 1
  | .agg parts => uptoBulkAll parts + 1
  | .iface _ d => uptoBulk d + 1
  | .map entries => uptoBulkEntries entries + 1
  | .held _ => 1
def uptoBulkAll {H : Type} : List (DataW H) → Nat
  | [] => 0
  | d :: r => uptoBulk d + uptoBulkAll r
def uptoBulkEntries {H : Type} : List (Lit × DataW H) → Nat
  | [] => 0
  | x :: r => uptoBulkEntry x + uptoBulkEntries r
def uptoBulkEntry {H : Type} : Lit × DataW H → Nat
  | (.string bytes, d) => bytes.length + uptoBulk d + 1
  | (_, d) => uptoBulk d + 1
 end
def uptoSmall : (H : Type) → List (DataW H) → Bool := fun _ ds => decide (uptoBulkAll ds ≤ 1048576)
def OpenSpec.upto (s : _root_.Go.ChangeSpec) : _root_.Go.OpenSpec := { _root_.Go.OpenSpec.ofChange s with cond := some uptoSmall }

/-- 'woodcutlaw05.FrameAlls', WHERE WHAT IT READS IS OF BULK AT MOST 1048576: true; the input reads as it did. -/
def frameAllsUptoRow : OpenClaim := { program := "ytcookhjgajfalaa", sum := "53b825e39a0f92c6919d26976a0e885ae6b334a344b883dc7ae55ce60bef6f47", func := "woodcut/woodcutlaw05.FrameAlls", spec := "frameAlls", unfollowed := true, recurses := true, apart := false, narrowed := true }
def FrameAllsUptoSaid : Prop := frameAllsUptoRow.holds Try.pinned (OpenSpec.upto frameAllsSpec)

/-- 'woodcutlaw07.TokenAttrs', WHERE WHAT IT READS IS OF BULK AT MOST 1048576: true; the input reads as it did. -/
def tokenAttrsUptoRow : OpenClaim := { program := "ytcookhjgajfalaa", sum := "53b825e39a0f92c6919d26976a0e885ae6b334a344b883dc7ae55ce60bef6f47", func := "woodcut/woodcutlaw07.TokenAttrs", spec := "tokenAttrs", inPlace := ["internal/abi.NoEscape"], unfollowed := true, recurses := true, apart := false, narrowed := true }
def TokenAttrsUptoSaid : Prop := tokenAttrsUptoRow.holds Try.pinned (OpenSpec.upto tokenAttrsSpec)

/-- 'woodcutlaw07.TokenAlike', WHERE WHAT IT READS IS OF BULK AT MOST 1048576: true; the input reads as it did. -/
def tokenAlikeUptoRow : OpenClaim := { program := "ytcookhjgajfalaa", sum := "53b825e39a0f92c6919d26976a0e885ae6b334a344b883dc7ae55ce60bef6f47", func := "woodcut/woodcutlaw07.TokenAlike", spec := "tokenAlike", inPlace := ["internal/abi.NoEscape"], apart := false, narrowed := true }
def TokenAlikeUptoSaid : Prop := tokenAlikeUptoRow.holds Try.pinned (OpenSpec.upto tokenAlikeSpec)

/-- 'woodcutlaw07.TokenSame', WHERE WHAT IT READS IS OF BULK AT MOST 1048576: true; the input reads as it did. -/
def tokenSameUptoRow : OpenClaim := { program := "ytcookhjgajfalaa", sum := "53b825e39a0f92c6919d26976a0e885ae6b334a344b883dc7ae55ce60bef6f47", func := "woodcut/woodcutlaw07.TokenSame", spec := "tokenSame", inPlace := ["internal/abi.NoEscape"], apart := false, narrowed := true }
def TokenSameUptoSaid : Prop := tokenSameUptoRow.holds Try.pinned (OpenSpec.upto tokenSameSpec)

/-- 'woodcutlaw07.TokenIs', WHERE WHAT IT READS IS OF BULK AT MOST 1048576: true; the input reads as it did. -/
def tokenIsUptoRow : OpenClaim := { program := "ytcookhjgajfalaa", sum := "53b825e39a0f92c6919d26976a0e885ae6b334a344b883dc7ae55ce60bef6f47", func := "woodcut/woodcutlaw07.TokenIs", spec := "tokenIs", inPlace := ["internal/abi.NoEscape"], apart := false, narrowed := true }
def TokenIsUptoSaid : Prop := tokenIsUptoRow.holds Try.pinned (OpenSpec.upto tokenIsSpec)

/-- 'woodcutlaw07.TokenTwice', WHERE WHAT IT READS IS OF BULK AT MOST 1048576: true; the input reads as it did. -/
def tokenTwiceUptoRow : OpenClaim := { program := "ytcookhjgajfalaa", sum := "53b825e39a0f92c6919d26976a0e885ae6b334a344b883dc7ae55ce60bef6f47", func := "woodcut/woodcutlaw07.TokenTwice", spec := "tokenTwice", inPlace := ["internal/abi.NoEscape"], unfollowed := true, recurses := true, apart := false, narrowed := true }
def TokenTwiceUptoSaid : Prop := tokenTwiceUptoRow.holds Try.pinned (OpenSpec.upto tokenTwiceSpec)

end Rows
end Go.Proofs.Ytcookhjgajfalaa
