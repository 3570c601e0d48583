/-
  NARROWER THAN 'FOR EVERY INPUT', by the rows' own cells (each row's printed sentence says how): CodecRecords: laid · CodecFrames: laid · CodecBack: laid · CodecBursts: laid · CodecFronts: laid · CodecStays: laid.
  DERIVED. THE GIVEN ROWS OF THIS SEAT. 6 by the template 'for every input the law returns true; each argument reads behind the call as it read before'; 0 by the template 'total and deterministic' (their statements: YtgcgehdbgegfeaaDoorTotals.lean).
  GIVEN WITH THE SEED: the statements are not yours to turn. If you find one false, say at which input.
  Laid BY PROGRAM, IN A SANDBOX (cutbox-rows.mjs): the forced cells as the released guide's own fill.sh prints them over the translation ad15c00d8bc73408… (all of the seat's roots in one cut). By AI agents, Wed Nov 11 2026. No macro, syntax, notation, axiom, sorry.
-/
import Derived.Test.YtgcgehdbgegfeaaDoorChecked
import GoSem.Claim
import GoSem.ClaimJoined
import GoSem.ClaimMapViews
import Derived.JoinedTies
import Derived.KernelRfl
namespace Go.Proofs.YtgcgehdbgegfeaaDoor
/- THE CELL 'sum', in the pinned program and in every row, IS THE sha256 OF THE DUMP (.gsa) THAT YtgcgehdbgegfeaaDoorProg.lean LOADS. Nothing in Lean hashes anything: it is a label: what it is worth is what the hold of that sum in a sandbox is worth. -/
noncomputable def Tryd.pinned : Pinned := { name := "ytgcgehdbgegfeaadoor", sum := "ad15c00d8bc7340813b233fcecd746edab675e10015f68f14955fd5e11fabf16", checked := Tryd.checked }
namespace Rows
def none {H : Type} : Left H := { results := [], args := [] }

/- WHAT THE LISTED PACKAGE-LEVEL VARIABLES READ AS WHEN THE CALL BEGINS. Each datum BY PROGRAM (the guide's laid-datum.mjs) off the statement by which the dump's own 'gosem.cut.vars' lays the variable. In a bare row this is a premise. The card (YtgcgehdbgegfeaaDoorCards.lean) ties it to the program's text. -/
def laid_almanac_crc_nibbles {H : Type} : DataW H := .agg [.lit (.int .u32 0), .lit (.int .u32 274646895), .lit (.int .u32 549293790), .lit (.int .u32 820201905), .lit (.int .u32 1098587580), .lit (.int .u32 1361435347), .lit (.int .u32 1640403810), .lit (.int .u32 1905808397), .lit (.int .u32 2197175160), .lit (.int .u32 2460548119), .lit (.int .u32 2722870694), .lit (.int .u32 2987750089), .lit (.int .u32 3280807620), .lit (.int .u32 3553878443), .lit (.int .u32 3811616794), .lit (.int .u32 4084100981)]

/-- 'almanaclaw3.CodecRecords': WHATEVER THE INPUT: true; the input reads as it did. -/
def codecRecordsSpec : ChangeSpec := { name := "codecRecords", fn := fun _ => fun
  | [d1, d2, d3] => { results := [.lit (.bool true)], args := [d1, d2, d3] }
  | _ => none }
def codecRecordsRow : OpenClaim := { program := "ytgcgehdbgegfeaadoor", sum := "ad15c00d8bc7340813b233fcecd746edab675e10015f68f14955fd5e11fabf16", func := "almanac/almanaclaw3.CodecRecords", spec := "codecRecords", unfollowed := true, recurses := true, named := ["almanac/crc.nibbles"], apart := false, laid := [("almanac/crc.nibbles", laid_almanac_crc_nibbles)] }
def CodecRecordsSaid : Prop := codecRecordsRow.holds Tryd.pinned (OpenSpec.ofChange codecRecordsSpec)

/-- ITS FALSE NEIGHBOUR: 'it returns false'. Refute it at one input. -/
def codecRecordsWrong : ChangeSpec := { name := "codecRecords", fn := fun _ => fun
  | [d1, d2, d3] => { results := [.lit (.bool false)], args := [d1, d2, d3] }
  | _ => none }
def CodecRecordsWrongFalsely : Prop := codecRecordsRow.holds Tryd.pinned (OpenSpec.ofChange codecRecordsWrong)

/-- 'almanaclaw3.CodecFrames': WHATEVER THE INPUT: true; the input reads as it did. -/
def codecFramesSpec : ChangeSpec := { name := "codecFrames", fn := fun _ => fun
  | [d1, d2, d3] => { results := [.lit (.bool true)], args := [d1, d2, d3] }
  | _ => none }
def codecFramesRow : OpenClaim := { program := "ytgcgehdbgegfeaadoor", sum := "ad15c00d8bc7340813b233fcecd746edab675e10015f68f14955fd5e11fabf16", func := "almanac/almanaclaw3.CodecFrames", spec := "codecFrames", named := ["almanac/crc.nibbles"], apart := false, laid := [("almanac/crc.nibbles", laid_almanac_crc_nibbles)] }
def CodecFramesSaid : Prop := codecFramesRow.holds Tryd.pinned (OpenSpec.ofChange codecFramesSpec)

/-- ITS FALSE NEIGHBOUR: 'it returns false'. Refute it at one input. -/
def codecFramesWrong : ChangeSpec := { name := "codecFrames", fn := fun _ => fun
  | [d1, d2, d3] => { results := [.lit (.bool false)], args := [d1, d2, d3] }
  | _ => none }
def CodecFramesWrongFalsely : Prop := codecFramesRow.holds Tryd.pinned (OpenSpec.ofChange codecFramesWrong)

/-- 'almanaclaw3.CodecBack': WHATEVER THE INPUT: true; the input reads as it did. -/
def codecBackSpec : ChangeSpec := { name := "codecBack", fn := fun _ => fun
  | [d1, d2, d3, d4] => { results := [.lit (.bool true)], args := [d1, d2, d3, d4] }
  | _ => none }
def codecBackRow : OpenClaim := { program := "ytgcgehdbgegfeaadoor", sum := "ad15c00d8bc7340813b233fcecd746edab675e10015f68f14955fd5e11fabf16", func := "almanac/almanaclaw3.CodecBack", spec := "codecBack", unfollowed := true, recurses := true, named := ["almanac/crc.nibbles"], apart := false, laid := [("almanac/crc.nibbles", laid_almanac_crc_nibbles)] }
def CodecBackSaid : Prop := codecBackRow.holds Tryd.pinned (OpenSpec.ofChange codecBackSpec)

/-- ITS FALSE NEIGHBOUR: 'it returns false'. Refute it at one input. -/
def codecBackWrong : ChangeSpec := { name := "codecBack", fn := fun _ => fun
  | [d1, d2, d3, d4] => { results := [.lit (.bool false)], args := [d1, d2, d3, d4] }
  | _ => none }
def CodecBackWrongFalsely : Prop := codecBackRow.holds Tryd.pinned (OpenSpec.ofChange codecBackWrong)

/-- 'almanaclaw3.CodecBursts': WHATEVER THE INPUT: true; the input reads as it did. -/
def codecBurstsSpec : ChangeSpec := { name := "codecBursts", fn := fun _ => fun
  | [d1, d2, d3, d4, d5] => { results := [.lit (.bool true)], args := [d1, d2, d3, d4, d5] }
  | _ => none }
def codecBurstsRow : OpenClaim := { program := "ytgcgehdbgegfeaadoor", sum := "ad15c00d8bc7340813b233fcecd746edab675e10015f68f14955fd5e11fabf16", func := "almanac/almanaclaw3.CodecBursts", spec := "codecBursts", named := ["almanac/crc.nibbles"], apart := false, laid := [("almanac/crc.nibbles", laid_almanac_crc_nibbles)] }
def CodecBurstsSaid : Prop := codecBurstsRow.holds Tryd.pinned (OpenSpec.ofChange codecBurstsSpec)

/-- ITS FALSE NEIGHBOUR: 'it returns false'. Refute it at one input. -/
def codecBurstsWrong : ChangeSpec := { name := "codecBursts", fn := fun _ => fun
  | [d1, d2, d3, d4, d5] => { results := [.lit (.bool false)], args := [d1, d2, d3, d4, d5] }
  | _ => none }
def CodecBurstsWrongFalsely : Prop := codecBurstsRow.holds Tryd.pinned (OpenSpec.ofChange codecBurstsWrong)

/-- 'almanaclaw3.CodecFronts': WHATEVER THE INPUT: true; the input reads as it did. -/
def codecFrontsSpec : ChangeSpec := { name := "codecFronts", fn := fun _ => fun
  | [d1, d2, d3, d4] => { results := [.lit (.bool true)], args := [d1, d2, d3, d4] }
  | _ => none }
def codecFrontsRow : OpenClaim := { program := "ytgcgehdbgegfeaadoor", sum := "ad15c00d8bc7340813b233fcecd746edab675e10015f68f14955fd5e11fabf16", func := "almanac/almanaclaw3.CodecFronts", spec := "codecFronts", named := ["almanac/crc.nibbles"], apart := false, laid := [("almanac/crc.nibbles", laid_almanac_crc_nibbles)] }
def CodecFrontsSaid : Prop := codecFrontsRow.holds Tryd.pinned (OpenSpec.ofChange codecFrontsSpec)

/-- ITS FALSE NEIGHBOUR: 'it returns false'. Refute it at one input. -/
def codecFrontsWrong : ChangeSpec := { name := "codecFronts", fn := fun _ => fun
  | [d1, d2, d3, d4] => { results := [.lit (.bool false)], args := [d1, d2, d3, d4] }
  | _ => none }
def CodecFrontsWrongFalsely : Prop := codecFrontsRow.holds Tryd.pinned (OpenSpec.ofChange codecFrontsWrong)

/-- 'almanaclaw3.CodecStays': WHATEVER THE INPUT: true; the input reads as it did. -/
def codecStaysSpec : ChangeSpec := { name := "codecStays", fn := fun _ => fun
  | [d1, d2] => { results := [.lit (.bool true)], args := [d1, d2] }
  | _ => none }
def codecStaysRow : OpenClaim := { program := "ytgcgehdbgegfeaadoor", sum := "ad15c00d8bc7340813b233fcecd746edab675e10015f68f14955fd5e11fabf16", func := "almanac/almanaclaw3.CodecStays", spec := "codecStays", unfollowed := true, recurses := true, named := ["almanac/crc.nibbles"], apart := false, laid := [("almanac/crc.nibbles", laid_almanac_crc_nibbles)] }
def CodecStaysSaid : Prop := codecStaysRow.holds Tryd.pinned (OpenSpec.ofChange codecStaysSpec)

/-- ITS FALSE NEIGHBOUR: 'it returns false'. Refute it at one input. -/
def codecStaysWrong : ChangeSpec := { name := "codecStays", fn := fun _ => fun
  | [d1, d2] => { results := [.lit (.bool false)], args := [d1, d2] }
  | _ => none }
def CodecStaysWrongFalsely : Prop := codecStaysRow.holds Tryd.pinned (OpenSpec.ofChange codecStaysWrong)

/- THE SECOND FORM. 'bulk': how many values and letters a reading holds, each counted each time it is reached (what is shared counts as often as it is met; a slice's spare places count too). A statement '..UptoSaid' is the law's where the arguments, and the package variables that the reading takes, are together of bulk at most 1048576: NARROWER than '..Said'. Prove '..Said' where nothing that the law and all that it calls make is longer than what came in: it says more and counts as full. Else prove '..UptoSaid'. A law counts once. -/
mutual
def uptoBulk {H : Type} : DataW H → Nat
  | .lit (.string bytes) => bytes.length + 1
  | .lit _ => 1
  | .nil => 1
  | .ptr d => uptoBulk d + 1
  | .slice elems spare => uptoBulkAll elems + uptoBulkAll spare + 1
  | .agg parts => uptoBulkAll parts + 1
  | .iface _ d => uptoBulk d + 1
  | .map entries => uptoBulkEntries entries + 1
  | .held _ => 1
def uptoBulkAll {H : Type} : List (DataW H) → Nat
  | [] => 0
  | d :: r => uptoBulk d + uptoBulkAll r
def uptoBulkEntries {H : Type} : List (Lit × DataW H) → Nat
  | [] => 0
  | x :: r => uptoBulkEntry x + uptoBulkEntries r
def uptoBulkEntry {H : Type} : Lit × DataW H → Nat
  | (.string bytes, d) => bytes.length + uptoBulk d + 1
  | (_, d) => uptoBulk d + 1
 end
def uptoSmall : (H : Type) → List (DataW H) → Bool := fun _ ds => decide (uptoBulkAll ds ≤ 1048576)
def OpenSpec.upto (s : _root_.Go.ChangeSpec) : _root_.Go.OpenSpec := { _root_.Go.OpenSpec.ofChange s with cond := some uptoSmall }

/-- 'almanaclaw3.CodecRecords', WHERE WHAT IT READS IS OF BULK AT MOST 1048576: true; the input reads as it did. -/
def codecRecordsUptoRow : OpenClaim := { program := "ytgcgehdbgegfeaadoor", sum := "ad15c00d8bc7340813b233fcecd746edab675e10015f68f14955fd5e11fabf16", func := "almanac/almanaclaw3.CodecRecords", spec := "codecRecords", unfollowed := true, recurses := true, named := ["almanac/crc.nibbles"], apart := false, laid := [("almanac/crc.nibbles", laid_almanac_crc_nibbles)], narrowed := true }
def CodecRecordsUptoSaid : Prop := codecRecordsUptoRow.holds Tryd.pinned (OpenSpec.upto codecRecordsSpec)

/-- 'almanaclaw3.CodecFrames', WHERE WHAT IT READS IS OF BULK AT MOST 1048576: true; the input reads as it did. -/
def codecFramesUptoRow : OpenClaim := { program := "ytgcgehdbgegfeaadoor", sum := "ad15c00d8bc7340813b233fcecd746edab675e10015f68f14955fd5e11fabf16", func := "almanac/almanaclaw3.CodecFrames", spec := "codecFrames", named := ["almanac/crc.nibbles"], apart := false, laid := [("almanac/crc.nibbles", laid_almanac_crc_nibbles)], narrowed := true }
def CodecFramesUptoSaid : Prop := codecFramesUptoRow.holds Tryd.pinned (OpenSpec.upto codecFramesSpec)

/-- 'almanaclaw3.CodecBack', WHERE WHAT IT READS IS OF BULK AT MOST 1048576: true; the input reads as it did. -/
def codecBackUptoRow : OpenClaim := { program := "ytgcgehdbgegfeaadoor", sum := "ad15c00d8bc7340813b233fcecd746edab675e10015f68f14955fd5e11fabf16", func := "almanac/almanaclaw3.CodecBack", spec := "codecBack", unfollowed := true, recurses := true, named := ["almanac/crc.nibbles"], apart := false, laid := [("almanac/crc.nibbles", laid_almanac_crc_nibbles)], narrowed := true }
def CodecBackUptoSaid : Prop := codecBackUptoRow.holds Tryd.pinned (OpenSpec.upto codecBackSpec)

/-- 'almanaclaw3.CodecBursts', WHERE WHAT IT READS IS OF BULK AT MOST 1048576: true; the input reads as it did. -/
def codecBurstsUptoRow : OpenClaim := { program := "ytgcgehdbgegfeaadoor", sum := "ad15c00d8bc7340813b233fcecd746edab675e10015f68f14955fd5e11fabf16", func := "almanac/almanaclaw3.CodecBursts", spec := "codecBursts", named := ["almanac/crc.nibbles"], apart := false, laid := [("almanac/crc.nibbles", laid_almanac_crc_nibbles)], narrowed := true }
def CodecBurstsUptoSaid : Prop := codecBurstsUptoRow.holds Tryd.pinned (OpenSpec.upto codecBurstsSpec)

/-- 'almanaclaw3.CodecFronts', WHERE WHAT IT READS IS OF BULK AT MOST 1048576: true; the input reads as it did. -/
def codecFrontsUptoRow : OpenClaim := { program := "ytgcgehdbgegfeaadoor", sum := "ad15c00d8bc7340813b233fcecd746edab675e10015f68f14955fd5e11fabf16", func := "almanac/almanaclaw3.CodecFronts", spec := "codecFronts", named := ["almanac/crc.nibbles"], apart := false, laid := [("almanac/crc.nibbles", laid_almanac_crc_nibbles)], narrowed := true }
def CodecFrontsUptoSaid : Prop := codecFrontsUptoRow.holds Tryd.pinned (OpenSpec.upto codecFrontsSpec)

/-- 'almanaclaw3.CodecStays', WHERE WHAT IT READS IS OF BULK AT MOST 1048576: true; the input reads as it did. -/
def codecStaysUptoRow : OpenClaim := { program := "ytgcgehdbgegfeaadoor", sum := "ad15c00d8bc7340813b233fcecd746edab675e10015f68f14955fd5e11fabf16", func := "almanac/almanaclaw3.CodecStays", spec := "codecStays", unfollowed := true, recurses := true, named := ["almanac/crc.nibbles"], apart := false, laid := [("almanac/crc.nibbles", laid_almanac_crc_nibbles)], narrowed := true }
def CodecStaysUptoSaid : Prop := codecStaysUptoRow.holds Tryd.pinned (OpenSpec.upto codecStaysSpec)

end Rows
end Go.Proofs.YtgcgehdbgegfeaaDoor
