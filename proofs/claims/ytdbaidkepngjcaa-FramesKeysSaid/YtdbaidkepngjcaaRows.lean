/-
  No cell of these rows narrows 'for every input' (looked for: loops, veiled, ifaces, maps, wideKeys, modest, calm, conditions, laid).
  DERIVED. THE GIVEN ROWS OF THIS SEAT. 4 by the template 'for every input the law returns true; each argument reads behind the call as it read before'; 0 by the template 'total and deterministic' (their statements: YtdbaidkepngjcaaTotals.lean).
  GIVEN WITH THE SEED: the statements are not yours to turn. If you find one false, say at which input.
  Laid BY PROGRAM, IN A SANDBOX (cutbox-rows.mjs): the forced cells as the released guide's own fill.sh prints them over the translation 3529066ed3633178… (all of the seat's roots in one cut). By AI agents, Wed Nov 11 2026. No macro, syntax, notation, axiom, sorry.
-/
import Derived.Test.YtdbaidkepngjcaaChecked
import GoSem.Claim
import GoSem.ClaimJoined
import GoSem.ClaimMapViews
import Derived.JoinedTies
import Derived.KernelRfl
namespace Go.Proofs.Ytdbaidkepngjcaa
/- THE CELL 'sum', in the pinned program and in every row, IS THE sha256 OF THE DUMP (.gsa) THAT YtdbaidkepngjcaaProg.lean LOADS. Nothing in Lean hashes anything: it is a label: what it is worth is what the hold of that sum in a sandbox is worth. -/
noncomputable def Try.pinned : Pinned := { name := "ytdbaidkepngjcaa", sum := "3529066ed363317832a6904ff747f8964ce7cd874600c29936be8bf1798fca8e", checked := Try.checked }
namespace Rows
def none {H : Type} : Left H := { results := [], args := [] }

/-- 'almanaclaw13.FramesPlays': WHATEVER THE INPUT: true; the input reads as it did. -/
def framesPlaysSpec : ChangeSpec := { name := "framesPlays", fn := fun _ => fun
  | [d1, d2] => { results := [.lit (.bool true)], args := [d1, d2] }
  | _ => none }
def framesPlaysRow : OpenClaim := { program := "ytdbaidkepngjcaa", sum := "3529066ed363317832a6904ff747f8964ce7cd874600c29936be8bf1798fca8e", func := "almanac/almanaclaw13.FramesPlays", spec := "framesPlays", plainKeys := false, apart := false }
def FramesPlaysSaid : Prop := framesPlaysRow.holds Try.pinned (OpenSpec.ofChange framesPlaysSpec)

/-- ITS FALSE NEIGHBOUR: 'it returns false'. Refute it at one input. -/
def framesPlaysWrong : ChangeSpec := { name := "framesPlays", fn := fun _ => fun
  | [d1, d2] => { results := [.lit (.bool false)], args := [d1, d2] }
  | _ => none }
def FramesPlaysWrongFalsely : Prop := framesPlaysRow.holds Try.pinned (OpenSpec.ofChange framesPlaysWrong)

/-- 'almanaclaw13.FramesKeys': WHATEVER THE INPUT: true; the input reads as it did. -/
def framesKeysSpec : ChangeSpec := { name := "framesKeys", fn := fun _ => fun
  | [d1, d2] => { results := [.lit (.bool true)], args := [d1, d2] }
  | _ => none }
def framesKeysRow : OpenClaim := { program := "ytdbaidkepngjcaa", sum := "3529066ed363317832a6904ff747f8964ce7cd874600c29936be8bf1798fca8e", func := "almanac/almanaclaw13.FramesKeys", spec := "framesKeys", plainKeys := false, apart := false }
def FramesKeysSaid : Prop := framesKeysRow.holds Try.pinned (OpenSpec.ofChange framesKeysSpec)

/-- ITS FALSE NEIGHBOUR: 'it returns false'. Refute it at one input. -/
def framesKeysWrong : ChangeSpec := { name := "framesKeys", fn := fun _ => fun
  | [d1, d2] => { results := [.lit (.bool false)], args := [d1, d2] }
  | _ => none }
def FramesKeysWrongFalsely : Prop := framesKeysRow.holds Try.pinned (OpenSpec.ofChange framesKeysWrong)

/-- 'almanaclaw13.FramesTouched': WHATEVER THE INPUT: true; the input reads as it did. -/
def framesTouchedSpec : ChangeSpec := { name := "framesTouched", fn := fun _ => fun
  | [d1, d2] => { results := [.lit (.bool true)], args := [d1, d2] }
  | _ => none }
def framesTouchedRow : OpenClaim := { program := "ytdbaidkepngjcaa", sum := "3529066ed363317832a6904ff747f8964ce7cd874600c29936be8bf1798fca8e", func := "almanac/almanaclaw13.FramesTouched", spec := "framesTouched", plainKeys := false, apart := false }
def FramesTouchedSaid : Prop := framesTouchedRow.holds Try.pinned (OpenSpec.ofChange framesTouchedSpec)

/-- ITS FALSE NEIGHBOUR: 'it returns false'. Refute it at one input. -/
def framesTouchedWrong : ChangeSpec := { name := "framesTouched", fn := fun _ => fun
  | [d1, d2] => { results := [.lit (.bool false)], args := [d1, d2] }
  | _ => none }
def FramesTouchedWrongFalsely : Prop := framesTouchedRow.holds Try.pinned (OpenSpec.ofChange framesTouchedWrong)

/-- 'almanaclaw13.FramesPinned': WHATEVER THE INPUT: true; the input reads as it did. -/
def framesPinnedSpec : ChangeSpec := { name := "framesPinned", fn := fun _ => fun
  | [d1, d2, d3] => { results := [.lit (.bool true)], args := [d1, d2, d3] }
  | _ => none }
def framesPinnedRow : OpenClaim := { program := "ytdbaidkepngjcaa", sum := "3529066ed363317832a6904ff747f8964ce7cd874600c29936be8bf1798fca8e", func := "almanac/almanaclaw13.FramesPinned", spec := "framesPinned", plainKeys := false, apart := false }
def FramesPinnedSaid : Prop := framesPinnedRow.holds Try.pinned (OpenSpec.ofChange framesPinnedSpec)

/-- ITS FALSE NEIGHBOUR: 'it returns false'. Refute it at one input. -/
def framesPinnedWrong : ChangeSpec := { name := "framesPinned", fn := fun _ => fun
  | [d1, d2, d3] => { results := [.lit (.bool false)], args := [d1, d2, d3] }
  | _ => none }
def FramesPinnedWrongFalsely : Prop := framesPinnedRow.holds Try.pinned (OpenSpec.ofChange framesPinnedWrong)

/- THE SECOND FORM. 'bulk': how many values and letters a reading holds, each counted each time it is reached (what is shared counts as often as it is met; a slice's spare places count too). A statement '..UptoSaid' is the law's where the arguments, and the package variables that the reading takes, are together of bulk at most 1048576: NARROWER than '..Said'. Prove '..Said' where nothing that the law and all that it calls make is longer than what came in: it says more and counts as full. Else prove '..UptoSaid'. A law counts once. -/
mutual
def uptoBulk {H : Type} : DataW H → Nat
  | .lit (.string bytes) => bytes.length + 1
  | .lit _ => 1
  | .nil => 1
  | .ptr d => uptoBulk d + 1
  | .slice elems spare => uptoBulkAll elems + uptoBulkAll spare + 1
  | .agg parts => uptoBulkAll parts + 1
  | .iface _ d => uptoBulk d + 1
  | .map entries => uptoBulkEntries entries + 1
  | .held _ => 1
def uptoBulkAll {H : Type} : List (DataW H) → Nat
  | [] => 0
  | d :: r => uptoBulk d + uptoBulkAll r
def uptoBulkEntries {H : Type} : List (Lit × DataW H) → Nat
  | [] => 0
  | x :: r => uptoBulkEntry x + uptoBulkEntries r
def uptoBulkEntry {H : Type} : Lit × DataW H → Nat
  | (.string bytes, d) => bytes.length + uptoBulk d + 1
  | (_, d) => uptoBulk d + 1
 end
def uptoSmall : (H : Type) → List (DataW H) → Bool := fun _ ds => decide (uptoBulkAll ds ≤ 1048576)
def OpenSpec.upto (s : _root_.Go.ChangeSpec) : _root_.Go.OpenSpec := { _root_.Go.OpenSpec.ofChange s with cond := some uptoSmall }

/-- 'almanaclaw13.FramesPlays', WHERE WHAT IT READS IS OF BULK AT MOST 1048576: true; the input reads as it did. -/
def framesPlaysUptoRow : OpenClaim := { program := "ytdbaidkepngjcaa", sum := "3529066ed363317832a6904ff747f8964ce7cd874600c29936be8bf1798fca8e", func := "almanac/almanaclaw13.FramesPlays", spec := "framesPlays", plainKeys := false, apart := false, narrowed := true }
def FramesPlaysUptoSaid : Prop := framesPlaysUptoRow.holds Try.pinned (OpenSpec.upto framesPlaysSpec)

/-- 'almanaclaw13.FramesKeys', WHERE WHAT IT READS IS OF BULK AT MOST 1048576: true; the input reads as it did. -/
def framesKeysUptoRow : OpenClaim := { program := "ytdbaidkepngjcaa", sum := "3529066ed363317832a6904ff747f8964ce7cd874600c29936be8bf1798fca8e", func := "almanac/almanaclaw13.FramesKeys", spec := "framesKeys", plainKeys := false, apart := false, narrowed := true }
def FramesKeysUptoSaid : Prop := framesKeysUptoRow.holds Try.pinned (OpenSpec.upto framesKeysSpec)

/-- 'almanaclaw13.FramesTouched', WHERE WHAT IT READS IS OF BULK AT MOST 1048576: true; the input reads as it did. -/
def framesTouchedUptoRow : OpenClaim := { program := "ytdbaidkepngjcaa", sum := "3529066ed363317832a6904ff747f8964ce7cd874600c29936be8bf1798fca8e", func := "almanac/almanaclaw13.FramesTouched", spec := "framesTouched", plainKeys := false, apart := false, narrowed := true }
def FramesTouchedUptoSaid : Prop := framesTouchedUptoRow.holds Try.pinned (OpenSpec.upto framesTouchedSpec)

/-- 'almanaclaw13.FramesPinned', WHERE WHAT IT READS IS OF BULK AT MOST 1048576: true; the input reads as it did. -/
def framesPinnedUptoRow : OpenClaim := { program := "ytdbaidkepngjcaa", sum := "3529066ed363317832a6904ff747f8964ce7cd874600c29936be8bf1798fca8e", func := "almanac/almanaclaw13.FramesPinned", spec := "framesPinned", plainKeys := false, apart := false, narrowed := true }
def FramesPinnedUptoSaid : Prop := framesPinnedUptoRow.holds Try.pinned (OpenSpec.upto framesPinnedSpec)

end Rows
end Go.Proofs.Ytdbaidkepngjcaa
