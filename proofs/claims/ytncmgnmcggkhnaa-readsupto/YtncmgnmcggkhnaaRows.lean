/-
  No cell of these rows narrows 'for every input' (looked for: loops, veiled, ifaces, maps, wideKeys, modest, calm, conditions, laid).
  DERIVED. THE GIVEN ROWS OF THIS SEAT. 9 by the template 'for every input the law returns true; each argument reads behind the call as it read before'; 0 by the template 'total and deterministic' (their statements: YtncmgnmcggkhnaaTotals.lean).
  GIVEN WITH THE SEED: the statements are not yours to turn. If you find one false, say at which input.
  Laid BY PROGRAM, IN A SANDBOX (cutbox-rows.mjs): the forced cells as the released guide's own fill.sh prints them over the translation 6d5c87576471eb11… (all of the seat's roots in one cut). By AI agents, Wed Nov 11 2026. No macro, syntax, notation, axiom, sorry.
-/
import Derived.Test.YtncmgnmcggkhnaaChecked
import GoSem.Claim
import GoSem.ClaimJoined
import GoSem.ClaimMapViews
import Derived.JoinedTies
import Derived.KernelRfl
namespace Go.Proofs.Ytncmgnmcggkhnaa
/- THE CELL 'sum', in the pinned program and in every row, IS THE sha256 OF THE DUMP (.gsa) THAT YtncmgnmcggkhnaaProg.lean LOADS. Nothing in Lean hashes anything: it is a label: what it is worth is what the hold of that sum in a sandbox is worth. -/
noncomputable def Try.pinned : Pinned := { name := "ytncmgnmcggkhnaa", sum := "6d5c87576471eb110cbaf44415f4ef46273595346029e2ea288fa22abd7fc134", checked := Try.checked }
namespace Rows
def none {H : Type} : Left H := { results := [], args := [] }

/-- 'piccololaw.Sums': WHATEVER THE INPUT: true; the input reads as it did. -/
def sumsSpec : ChangeSpec := { name := "sums", fn := fun _ => fun
  | [d] => { results := [.lit (.bool true)], args := [d] }
  | _ => none }
def sumsRow : OpenClaim := { program := "ytncmgnmcggkhnaa", sum := "6d5c87576471eb110cbaf44415f4ef46273595346029e2ea288fa22abd7fc134", func := "piccolo/piccololaw.Sums", spec := "sums", apart := false }
def SumsSaid : Prop := sumsRow.holds Try.pinned (OpenSpec.ofChange sumsSpec)

/-- ITS FALSE NEIGHBOUR: 'it returns false'. Refute it at one input. -/
def sumsWrong : ChangeSpec := { name := "sums", fn := fun _ => fun
  | [d] => { results := [.lit (.bool false)], args := [d] }
  | _ => none }
def SumsWrongFalsely : Prop := sumsRow.holds Try.pinned (OpenSpec.ofChange sumsWrong)

/-- 'piccololaw.Decodes': WHATEVER THE INPUT: true; the input reads as it did. -/
def decodesSpec : ChangeSpec := { name := "decodes", fn := fun _ => fun
  | [d] => { results := [.lit (.bool true)], args := [d] }
  | _ => none }
def decodesRow : OpenClaim := { program := "ytncmgnmcggkhnaa", sum := "6d5c87576471eb110cbaf44415f4ef46273595346029e2ea288fa22abd7fc134", func := "piccolo/piccololaw.Decodes", spec := "decodes", unfollowed := true, recurses := true, apart := false }
def DecodesSaid : Prop := decodesRow.holds Try.pinned (OpenSpec.ofChange decodesSpec)

/-- ITS FALSE NEIGHBOUR: 'it returns false'. Refute it at one input. -/
def decodesWrong : ChangeSpec := { name := "decodes", fn := fun _ => fun
  | [d] => { results := [.lit (.bool false)], args := [d] }
  | _ => none }
def DecodesWrongFalsely : Prop := decodesRow.holds Try.pinned (OpenSpec.ofChange decodesWrong)

/-- 'piccololaw.Encodes': WHATEVER THE INPUT: true; the input reads as it did. -/
def encodesSpec : ChangeSpec := { name := "encodes", fn := fun _ => fun
  | [d1, d2] => { results := [.lit (.bool true)], args := [d1, d2] }
  | _ => none }
def encodesRow : OpenClaim := { program := "ytncmgnmcggkhnaa", sum := "6d5c87576471eb110cbaf44415f4ef46273595346029e2ea288fa22abd7fc134", func := "piccolo/piccololaw.Encodes", spec := "encodes", inPlace := ["internal/abi.NoEscape"], apart := false }
def EncodesSaid : Prop := encodesRow.holds Try.pinned (OpenSpec.ofChange encodesSpec)

/-- ITS FALSE NEIGHBOUR: 'it returns false'. Refute it at one input. -/
def encodesWrong : ChangeSpec := { name := "encodes", fn := fun _ => fun
  | [d1, d2] => { results := [.lit (.bool false)], args := [d1, d2] }
  | _ => none }
def EncodesWrongFalsely : Prop := encodesRow.holds Try.pinned (OpenSpec.ofChange encodesWrong)

/-- 'piccololaw.Reads': WHATEVER THE INPUT: true; the input reads as it did. -/
def readsSpec : ChangeSpec := { name := "reads", fn := fun _ => fun
  | [d1, d2, d3] => { results := [.lit (.bool true)], args := [d1, d2, d3] }
  | _ => none }
def readsRow : OpenClaim := { program := "ytncmgnmcggkhnaa", sum := "6d5c87576471eb110cbaf44415f4ef46273595346029e2ea288fa22abd7fc134", func := "piccolo/piccololaw.Reads", spec := "reads", unfollowed := true, recurses := true, apart := false }
def ReadsSaid : Prop := readsRow.holds Try.pinned (OpenSpec.ofChange readsSpec)

/-- ITS FALSE NEIGHBOUR: 'it returns false'. Refute it at one input. -/
def readsWrong : ChangeSpec := { name := "reads", fn := fun _ => fun
  | [d1, d2, d3] => { results := [.lit (.bool false)], args := [d1, d2, d3] }
  | _ => none }
def ReadsWrongFalsely : Prop := readsRow.holds Try.pinned (OpenSpec.ofChange readsWrong)

/-- 'piccolokeep.Checked': WHATEVER THE INPUT: true; the input reads as it did. -/
def checkedSpec : ChangeSpec := { name := "checked", fn := fun _ => fun
  | [d1, d2, d3] => { results := [.lit (.bool true)], args := [d1, d2, d3] }
  | _ => none }
def checkedRow : OpenClaim := { program := "ytncmgnmcggkhnaa", sum := "6d5c87576471eb110cbaf44415f4ef46273595346029e2ea288fa22abd7fc134", func := "piccolo/piccolokeep.Checked", spec := "checked", apart := false }
def CheckedSaid : Prop := checkedRow.holds Try.pinned (OpenSpec.ofChange checkedSpec)

/-- ITS FALSE NEIGHBOUR: 'it returns false'. Refute it at one input. -/
def checkedWrong : ChangeSpec := { name := "checked", fn := fun _ => fun
  | [d1, d2, d3] => { results := [.lit (.bool false)], args := [d1, d2, d3] }
  | _ => none }
def CheckedWrongFalsely : Prop := checkedRow.holds Try.pinned (OpenSpec.ofChange checkedWrong)

/-- 'piccolokeep.Back': WHATEVER THE INPUT: true; the input reads as it did. -/
def backSpec : ChangeSpec := { name := "back", fn := fun _ => fun
  | [d1, d2, d3, d4, d5] => { results := [.lit (.bool true)], args := [d1, d2, d3, d4, d5] }
  | _ => none }
def backRow : OpenClaim := { program := "ytncmgnmcggkhnaa", sum := "6d5c87576471eb110cbaf44415f4ef46273595346029e2ea288fa22abd7fc134", func := "piccolo/piccolokeep.Back", spec := "back", inPlace := ["internal/abi.NoEscape"], unfollowed := true, recurses := true, apart := false }
def BackSaid : Prop := backRow.holds Try.pinned (OpenSpec.ofChange backSpec)

/-- ITS FALSE NEIGHBOUR: 'it returns false'. Refute it at one input. -/
def backWrong : ChangeSpec := { name := "back", fn := fun _ => fun
  | [d1, d2, d3, d4, d5] => { results := [.lit (.bool false)], args := [d1, d2, d3, d4, d5] }
  | _ => none }
def BackWrongFalsely : Prop := backRow.holds Try.pinned (OpenSpec.ofChange backWrong)

/-- 'piccolokeep.Small': WHATEVER THE INPUT: true; the input reads as it did. -/
def smallSpec : ChangeSpec := { name := "small", fn := fun _ => fun
  | [d1, d2, d3, d4, d5] => { results := [.lit (.bool true)], args := [d1, d2, d3, d4, d5] }
  | _ => none }
def smallRow : OpenClaim := { program := "ytncmgnmcggkhnaa", sum := "6d5c87576471eb110cbaf44415f4ef46273595346029e2ea288fa22abd7fc134", func := "piccolo/piccolokeep.Small", spec := "small", inPlace := ["internal/abi.NoEscape"], unfollowed := true, recurses := true, apart := false }
def SmallSaid : Prop := smallRow.holds Try.pinned (OpenSpec.ofChange smallSpec)

/-- ITS FALSE NEIGHBOUR: 'it returns false'. Refute it at one input. -/
def smallWrong : ChangeSpec := { name := "small", fn := fun _ => fun
  | [d1, d2, d3, d4, d5] => { results := [.lit (.bool false)], args := [d1, d2, d3, d4, d5] }
  | _ => none }
def SmallWrongFalsely : Prop := smallRow.holds Try.pinned (OpenSpec.ofChange smallWrong)

/-- 'piccolokeep.Pieces': WHATEVER THE INPUT: true; the input reads as it did. -/
def piecesSpec : ChangeSpec := { name := "pieces", fn := fun _ => fun
  | [d1, d2, d3, d4, d5] => { results := [.lit (.bool true)], args := [d1, d2, d3, d4, d5] }
  | _ => none }
def piecesRow : OpenClaim := { program := "ytncmgnmcggkhnaa", sum := "6d5c87576471eb110cbaf44415f4ef46273595346029e2ea288fa22abd7fc134", func := "piccolo/piccolokeep.Pieces", spec := "pieces", inPlace := ["internal/abi.NoEscape"], unfollowed := true, recurses := true, apart := false }
def PiecesSaid : Prop := piecesRow.holds Try.pinned (OpenSpec.ofChange piecesSpec)

/-- ITS FALSE NEIGHBOUR: 'it returns false'. Refute it at one input. -/
def piecesWrong : ChangeSpec := { name := "pieces", fn := fun _ => fun
  | [d1, d2, d3, d4, d5] => { results := [.lit (.bool false)], args := [d1, d2, d3, d4, d5] }
  | _ => none }
def PiecesWrongFalsely : Prop := piecesRow.holds Try.pinned (OpenSpec.ofChange piecesWrong)

/-- 'piccolokeep.CutOff': WHATEVER THE INPUT: true; the input reads as it did. -/
def cutOffSpec : ChangeSpec := { name := "cutOff", fn := fun _ => fun
  | [d1, d2, d3, d4, d5, d6] => { results := [.lit (.bool true)], args := [d1, d2, d3, d4, d5, d6] }
  | _ => none }
def cutOffRow : OpenClaim := { program := "ytncmgnmcggkhnaa", sum := "6d5c87576471eb110cbaf44415f4ef46273595346029e2ea288fa22abd7fc134", func := "piccolo/piccolokeep.CutOff", spec := "cutOff", inPlace := ["internal/abi.NoEscape"], unfollowed := true, recurses := true, apart := false }
def CutOffSaid : Prop := cutOffRow.holds Try.pinned (OpenSpec.ofChange cutOffSpec)

/-- ITS FALSE NEIGHBOUR: 'it returns false'. Refute it at one input. -/
def cutOffWrong : ChangeSpec := { name := "cutOff", fn := fun _ => fun
  | [d1, d2, d3, d4, d5, d6] => { results := [.lit (.bool false)], args := [d1, d2, d3, d4, d5, d6] }
  | _ => none }
def CutOffWrongFalsely : Prop := cutOffRow.holds Try.pinned (OpenSpec.ofChange cutOffWrong)

/- THE SECOND FORM. 'bulk': how many values and letters a reading holds, each counted each time it is reached (what is shared counts as often as it is met; a slice's spare places count too). A statement '..UptoSaid' is the law's where the arguments, and the package variables that the reading takes, are together of bulk at most 1048576: NARROWER than '..Said'. Prove '..Said' where nothing that the law and all that it calls make is longer than what came in: it says more and counts as full. Else prove '..UptoSaid'. A law counts once. -/
mutual
def uptoBulk {H : Type} : DataW H → Nat
  | .lit (.string bytes) => bytes.length + 1
  | .lit _ => 1
  | .nil => 1
  | .ptr d => uptoBulk d + 1
  | .slice elems spare => uptoBulkAll elems + uptoBulkAll spare + 1
  | .agg parts => uptoBulkAll parts + 1
  | .iface _ d => uptoBulk d + 1
  | .map entries => uptoBulkEntries entries + 1
  | .held _ => 1
def uptoBulkAll {H : Type} : List (DataW H) → Nat
  | [] => 0
  | d :: r => uptoBulk d + uptoBulkAll r
def uptoBulkEntries {H : Type} : List (Lit × DataW H) → Nat
  | [] => 0
  | x :: r => uptoBulkEntry x + uptoBulkEntries r
def uptoBulkEntry {H : Type} : Lit × DataW H → Nat
  | (.string bytes, d) => bytes.length + uptoBulk d + 1
  | (_, d) => uptoBulk d + 1
 end
def uptoSmall : (H : Type) → List (DataW H) → Bool := fun _ ds => decide (uptoBulkAll ds ≤ 1048576)
def OpenSpec.upto (s : _root_.Go.ChangeSpec) : _root_.Go.OpenSpec := { _root_.Go.OpenSpec.ofChange s with cond := some uptoSmall }

/-- 'piccololaw.Sums', WHERE WHAT IT READS IS OF BULK AT MOST 1048576: true; the input reads as it did. -/
def sumsUptoRow : OpenClaim := { program := "ytncmgnmcggkhnaa", sum := "6d5c87576471eb110cbaf44415f4ef46273595346029e2ea288fa22abd7fc134", func := "piccolo/piccololaw.Sums", spec := "sums", apart := false, narrowed := true }
def SumsUptoSaid : Prop := sumsUptoRow.holds Try.pinned (OpenSpec.upto sumsSpec)

/-- 'piccololaw.Decodes', WHERE WHAT IT READS IS OF BULK AT MOST 1048576: true; the input reads as it did. -/
def decodesUptoRow : OpenClaim := { program := "ytncmgnmcggkhnaa", sum := "6d5c87576471eb110cbaf44415f4ef46273595346029e2ea288fa22abd7fc134", func := "piccolo/piccololaw.Decodes", spec := "decodes", unfollowed := true, recurses := true, apart := false, narrowed := true }
def DecodesUptoSaid : Prop := decodesUptoRow.holds Try.pinned (OpenSpec.upto decodesSpec)

/-- 'piccololaw.Encodes', WHERE WHAT IT READS IS OF BULK AT MOST 1048576: true; the input reads as it did. -/
def encodesUptoRow : OpenClaim := { program := "ytncmgnmcggkhnaa", sum := "6d5c87576471eb110cbaf44415f4ef46273595346029e2ea288fa22abd7fc134", func := "piccolo/piccololaw.Encodes", spec := "encodes", inPlace := ["internal/abi.NoEscape"], apart := false, narrowed := true }
def EncodesUptoSaid : Prop := encodesUptoRow.holds Try.pinned (OpenSpec.upto encodesSpec)

/-- 'piccololaw.Reads', WHERE WHAT IT READS IS OF BULK AT MOST 1048576: true; the input reads as it did. -/
def readsUptoRow : OpenClaim := { program := "ytncmgnmcggkhnaa", sum := "6d5c87576471eb110cbaf44415f4ef46273595346029e2ea288fa22abd7fc134", func := "piccolo/piccololaw.Reads", spec := "reads", unfollowed := true, recurses := true, apart := false, narrowed := true }
def ReadsUptoSaid : Prop := readsUptoRow.holds Try.pinned (OpenSpec.upto readsSpec)

/-- 'piccolokeep.Checked', WHERE WHAT IT READS IS OF BULK AT MOST 1048576: true; the input reads as it did. -/
def checkedUptoRow : OpenClaim := { program := "ytncmgnmcggkhnaa", sum := "6d5c87576471eb110cbaf44415f4ef46273595346029e2ea288fa22abd7fc134", func := "piccolo/piccolokeep.Checked", spec := "checked", apart := false, narrowed := true }
def CheckedUptoSaid : Prop := checkedUptoRow.holds Try.pinned (OpenSpec.upto checkedSpec)

/-- 'piccolokeep.Back', WHERE WHAT IT READS IS OF BULK AT MOST 1048576: true; the input reads as it did. -/
def backUptoRow : OpenClaim := { program := "ytncmgnmcggkhnaa", sum := "6d5c87576471eb110cbaf44415f4ef46273595346029e2ea288fa22abd7fc134", func := "piccolo/piccolokeep.Back", spec := "back", inPlace := ["internal/abi.NoEscape"], unfollowed := true, recurses := true, apart := false, narrowed := true }
def BackUptoSaid : Prop := backUptoRow.holds Try.pinned (OpenSpec.upto backSpec)

/-- 'piccolokeep.Small', WHERE WHAT IT READS IS OF BULK AT MOST 1048576: true; the input reads as it did. -/
def smallUptoRow : OpenClaim := { program := "ytncmgnmcggkhnaa", sum := "6d5c87576471eb110cbaf44415f4ef46273595346029e2ea288fa22abd7fc134", func := "piccolo/piccolokeep.Small", spec := "small", inPlace := ["internal/abi.NoEscape"], unfollowed := true, recurses := true, apart := false, narrowed := true }
def SmallUptoSaid : Prop := smallUptoRow.holds Try.pinned (OpenSpec.upto smallSpec)

/-- 'piccolokeep.Pieces', WHERE WHAT IT READS IS OF BULK AT MOST 1048576: true; the input reads as it did. -/
def piecesUptoRow : OpenClaim := { program := "ytncmgnmcggkhnaa", sum := "6d5c87576471eb110cbaf44415f4ef46273595346029e2ea288fa22abd7fc134", func := "piccolo/piccolokeep.Pieces", spec := "pieces", inPlace := ["internal/abi.NoEscape"], unfollowed := true, recurses := true, apart := false, narrowed := true }
def PiecesUptoSaid : Prop := piecesUptoRow.holds Try.pinned (OpenSpec.upto piecesSpec)

/-- 'piccolokeep.CutOff', WHERE WHAT IT READS IS OF BULK AT MOST 1048576: true; the input reads as it did. -/
def cutOffUptoRow : OpenClaim := { program := "ytncmgnmcggkhnaa", sum := "6d5c87576471eb110cbaf44415f4ef46273595346029e2ea288fa22abd7fc134", func := "piccolo/piccolokeep.CutOff", spec := "cutOff", inPlace := ["internal/abi.NoEscape"], unfollowed := true, recurses := true, apart := false, narrowed := true }
def CutOffUptoSaid : Prop := cutOffUptoRow.holds Try.pinned (OpenSpec.upto cutOffSpec)

end Rows
end Go.Proofs.Ytncmgnmcggkhnaa
