/-
  NARROWER THAN 'FOR EVERY INPUT', by the rows' own cells (each row's printed sentence says how): CrcSums: laid · CrcJoins: laid · CrcBursts: laid · CrcMixes: laid · CrcSplits: laid · CrcTwice: laid.
  DERIVED. THE GIVEN ROWS OF THIS SEAT. 6 by the template 'for every input the law returns true; each argument reads behind the call as it read before'; 0 by the template 'total and deterministic' (their statements: YtclenafidfpinaaDoorTotals.lean).
  GIVEN WITH THE SEED: the statements are not yours to turn. If you find one false, say at which input.
  Laid BY PROGRAM, IN A SANDBOX (cutbox-rows.mjs): the forced cells as the released guide's own fill.sh prints them over the translation 299e697691df4e6e… (all of the seat's roots in one cut). By AI agents, Wed Nov 11 2026. No macro, syntax, notation, axiom, sorry.
-/
import Derived.Test.YtclenafidfpinaaDoorChecked
import GoSem.Claim
import GoSem.ClaimJoined
import GoSem.ClaimMapViews
import Derived.JoinedTies
import Derived.KernelRfl
namespace Go.Proofs.YtclenafidfpinaaDoor
/- THE CELL 'sum', in the pinned program and in every row, IS THE sha256 OF THE DUMP (.gsa) THAT YtclenafidfpinaaDoorProg.lean LOADS. Nothing in Lean hashes anything: it is a label: what it is worth is what the hold of that sum in a sandbox is worth. -/
noncomputable def Tryd.pinned : Pinned := { name := "ytclenafidfpinaadoor", sum := "299e697691df4e6ee97069d7c173e597ba865fd6ab8f983f5829eb2ef033e722", checked := Tryd.checked }
namespace Rows
def none {H : Type} : Left H := { results := [], args := [] }

/- WHAT THE LISTED PACKAGE-LEVEL VARIABLES READ AS WHEN THE CALL BEGINS. Each datum BY PROGRAM (the guide's laid-datum.mjs) off the statement by which the dump's own 'gosem.cut.vars' lays the variable. In a bare row this is a premise. The card (YtclenafidfpinaaDoorCards.lean) ties it to the program's text. -/
def laid_almanac_crc_nibbles {H : Type} : DataW H := .agg [.lit (.int .u32 0), .lit (.int .u32 274646895), .lit (.int .u32 549293790), .lit (.int .u32 820201905), .lit (.int .u32 1098587580), .lit (.int .u32 1361435347), .lit (.int .u32 1640403810), .lit (.int .u32 1905808397), .lit (.int .u32 2197175160), .lit (.int .u32 2460548119), .lit (.int .u32 2722870694), .lit (.int .u32 2987750089), .lit (.int .u32 3280807620), .lit (.int .u32 3553878443), .lit (.int .u32 3811616794), .lit (.int .u32 4084100981)]

/-- 'almanaclaw2.CrcSums': WHATEVER THE INPUT: true; the input reads as it did. -/
def crcSumsSpec : ChangeSpec := { name := "crcSums", fn := fun _ => fun
  | [d1, d2, d3, d4] => { results := [.lit (.bool true)], args := [d1, d2, d3, d4] }
  | _ => none }
def crcSumsRow : OpenClaim := { program := "ytclenafidfpinaadoor", sum := "299e697691df4e6ee97069d7c173e597ba865fd6ab8f983f5829eb2ef033e722", func := "almanac/almanaclaw2.CrcSums", spec := "crcSums", named := ["almanac/crc.nibbles"], apart := false, laid := [("almanac/crc.nibbles", laid_almanac_crc_nibbles)] }
def CrcSumsSaid : Prop := crcSumsRow.holds Tryd.pinned (OpenSpec.ofChange crcSumsSpec)

/-- ITS FALSE NEIGHBOUR: 'it returns false'. Refute it at one input. -/
def crcSumsWrong : ChangeSpec := { name := "crcSums", fn := fun _ => fun
  | [d1, d2, d3, d4] => { results := [.lit (.bool false)], args := [d1, d2, d3, d4] }
  | _ => none }
def CrcSumsWrongFalsely : Prop := crcSumsRow.holds Tryd.pinned (OpenSpec.ofChange crcSumsWrong)

/-- 'almanaclaw2.CrcJoins': WHATEVER THE INPUT: true; the input reads as it did. -/
def crcJoinsSpec : ChangeSpec := { name := "crcJoins", fn := fun _ => fun
  | [d1, d2, d3, d4] => { results := [.lit (.bool true)], args := [d1, d2, d3, d4] }
  | _ => none }
def crcJoinsRow : OpenClaim := { program := "ytclenafidfpinaadoor", sum := "299e697691df4e6ee97069d7c173e597ba865fd6ab8f983f5829eb2ef033e722", func := "almanac/almanaclaw2.CrcJoins", spec := "crcJoins", named := ["almanac/crc.nibbles"], apart := false, laid := [("almanac/crc.nibbles", laid_almanac_crc_nibbles)] }
def CrcJoinsSaid : Prop := crcJoinsRow.holds Tryd.pinned (OpenSpec.ofChange crcJoinsSpec)

/-- ITS FALSE NEIGHBOUR: 'it returns false'. Refute it at one input. -/
def crcJoinsWrong : ChangeSpec := { name := "crcJoins", fn := fun _ => fun
  | [d1, d2, d3, d4] => { results := [.lit (.bool false)], args := [d1, d2, d3, d4] }
  | _ => none }
def CrcJoinsWrongFalsely : Prop := crcJoinsRow.holds Tryd.pinned (OpenSpec.ofChange crcJoinsWrong)

/-- 'almanaclaw2.CrcBursts': WHATEVER THE INPUT: true; the input reads as it did. -/
def crcBurstsSpec : ChangeSpec := { name := "crcBursts", fn := fun _ => fun
  | [d1, d2, d3] => { results := [.lit (.bool true)], args := [d1, d2, d3] }
  | _ => none }
def crcBurstsRow : OpenClaim := { program := "ytclenafidfpinaadoor", sum := "299e697691df4e6ee97069d7c173e597ba865fd6ab8f983f5829eb2ef033e722", func := "almanac/almanaclaw2.CrcBursts", spec := "crcBursts", named := ["almanac/crc.nibbles"], apart := false, laid := [("almanac/crc.nibbles", laid_almanac_crc_nibbles)] }
def CrcBurstsSaid : Prop := crcBurstsRow.holds Tryd.pinned (OpenSpec.ofChange crcBurstsSpec)

/-- ITS FALSE NEIGHBOUR: 'it returns false'. Refute it at one input. -/
def crcBurstsWrong : ChangeSpec := { name := "crcBursts", fn := fun _ => fun
  | [d1, d2, d3] => { results := [.lit (.bool false)], args := [d1, d2, d3] }
  | _ => none }
def CrcBurstsWrongFalsely : Prop := crcBurstsRow.holds Tryd.pinned (OpenSpec.ofChange crcBurstsWrong)

/-- 'almanaclaw2.CrcMixes': WHATEVER THE INPUT: true; the input reads as it did. -/
def crcMixesSpec : ChangeSpec := { name := "crcMixes", fn := fun _ => fun
  | [d1, d2, d3] => { results := [.lit (.bool true)], args := [d1, d2, d3] }
  | _ => none }
def crcMixesRow : OpenClaim := { program := "ytclenafidfpinaadoor", sum := "299e697691df4e6ee97069d7c173e597ba865fd6ab8f983f5829eb2ef033e722", func := "almanac/almanaclaw2.CrcMixes", spec := "crcMixes", named := ["almanac/crc.nibbles"], apart := false, laid := [("almanac/crc.nibbles", laid_almanac_crc_nibbles)] }
def CrcMixesSaid : Prop := crcMixesRow.holds Tryd.pinned (OpenSpec.ofChange crcMixesSpec)

/-- ITS FALSE NEIGHBOUR: 'it returns false'. Refute it at one input. -/
def crcMixesWrong : ChangeSpec := { name := "crcMixes", fn := fun _ => fun
  | [d1, d2, d3] => { results := [.lit (.bool false)], args := [d1, d2, d3] }
  | _ => none }
def CrcMixesWrongFalsely : Prop := crcMixesRow.holds Tryd.pinned (OpenSpec.ofChange crcMixesWrong)

/-- 'almanaclaw2.CrcSplits': WHATEVER THE INPUT: true; the input reads as it did. -/
def crcSplitsSpec : ChangeSpec := { name := "crcSplits", fn := fun _ => fun
  | [d1, d2] => { results := [.lit (.bool true)], args := [d1, d2] }
  | _ => none }
def crcSplitsRow : OpenClaim := { program := "ytclenafidfpinaadoor", sum := "299e697691df4e6ee97069d7c173e597ba865fd6ab8f983f5829eb2ef033e722", func := "almanac/almanaclaw2.CrcSplits", spec := "crcSplits", named := ["almanac/crc.nibbles"], apart := false, laid := [("almanac/crc.nibbles", laid_almanac_crc_nibbles)] }
def CrcSplitsSaid : Prop := crcSplitsRow.holds Tryd.pinned (OpenSpec.ofChange crcSplitsSpec)

/-- ITS FALSE NEIGHBOUR: 'it returns false'. Refute it at one input. -/
def crcSplitsWrong : ChangeSpec := { name := "crcSplits", fn := fun _ => fun
  | [d1, d2] => { results := [.lit (.bool false)], args := [d1, d2] }
  | _ => none }
def CrcSplitsWrongFalsely : Prop := crcSplitsRow.holds Tryd.pinned (OpenSpec.ofChange crcSplitsWrong)

/-- 'almanaclaw2.CrcTwice': WHATEVER THE INPUT: true; the input reads as it did. -/
def crcTwiceSpec : ChangeSpec := { name := "crcTwice", fn := fun _ => fun
  | [d1, d2, d3] => { results := [.lit (.bool true)], args := [d1, d2, d3] }
  | _ => none }
def crcTwiceRow : OpenClaim := { program := "ytclenafidfpinaadoor", sum := "299e697691df4e6ee97069d7c173e597ba865fd6ab8f983f5829eb2ef033e722", func := "almanac/almanaclaw2.CrcTwice", spec := "crcTwice", named := ["almanac/crc.nibbles"], apart := false, laid := [("almanac/crc.nibbles", laid_almanac_crc_nibbles)] }
def CrcTwiceSaid : Prop := crcTwiceRow.holds Tryd.pinned (OpenSpec.ofChange crcTwiceSpec)

/-- ITS FALSE NEIGHBOUR: 'it returns false'. Refute it at one input. -/
def crcTwiceWrong : ChangeSpec := { name := "crcTwice", fn := fun _ => fun
  | [d1, d2, d3] => { results := [.lit (.bool false)], args := [d1, d2, d3] }
  | _ => none }
def CrcTwiceWrongFalsely : Prop := crcTwiceRow.holds Tryd.pinned (OpenSpec.ofChange crcTwiceWrong)

/- THE SECOND FORM. 'bulk': how many values and letters a reading holds, each counted each time it is reached (what is shared counts as often as it is met; a slice's spare places count too). A statement '..UptoSaid' is the law's where the arguments, and the package variables that the reading takes, are together of bulk at most 1048576: NARROWER than '..Said'. Prove '..Said' where nothing that the law and all that it calls make is longer than what came in: it says more and counts as full. Else prove '..UptoSaid'. A law counts once. -/
mutual
def uptoBulk {H : Type} : DataW H → Nat
  | .lit (.string bytes) => bytes.length + 1
  | .lit _ => 1
  | .nil => 1
  | .ptr d => uptoBulk d + 1
  | .slice elems spare => uptoBulkAll elems + uptoBulkAll spare + 1
  | .agg parts => uptoBulkAll parts + 1
  | .iface _ d => uptoBulk d + 1
  | .map entries => uptoBulkEntries entries + 1
  | .held _ => 1
def uptoBulkAll {H : Type} : List (DataW H) → Nat
  | [] => 0
  | d :: r => uptoBulk d + uptoBulkAll r
def uptoBulkEntries {H : Type} : List (Lit × DataW H) → Nat
  | [] => 0
  | x :: r => uptoBulkEntry x + uptoBulkEntries r
def uptoBulkEntry {H : Type} : Lit × DataW H → Nat
  | (.string bytes, d) => bytes.length + uptoBulk d + 1
  | (_, d) => uptoBulk d + 1
 end
def uptoSmall : (H : Type) → List (DataW H) → Bool := fun _ ds => decide (uptoBulkAll ds ≤ 1048576)
def OpenSpec.upto (s : _root_.Go.ChangeSpec) : _root_.Go.OpenSpec := { _root_.Go.OpenSpec.ofChange s with cond := some uptoSmall }

/-- 'almanaclaw2.CrcSums', WHERE WHAT IT READS IS OF BULK AT MOST 1048576: true; the input reads as it did. -/
def crcSumsUptoRow : OpenClaim := { program := "ytclenafidfpinaadoor", sum := "299e697691df4e6ee97069d7c173e597ba865fd6ab8f983f5829eb2ef033e722", func := "almanac/almanaclaw2.CrcSums", spec := "crcSums", named := ["almanac/crc.nibbles"], apart := false, laid := [("almanac/crc.nibbles", laid_almanac_crc_nibbles)], narrowed := true }
def CrcSumsUptoSaid : Prop := crcSumsUptoRow.holds Tryd.pinned (OpenSpec.upto crcSumsSpec)

/-- 'almanaclaw2.CrcJoins', WHERE WHAT IT READS IS OF BULK AT MOST 1048576: true; the input reads as it did. -/
def crcJoinsUptoRow : OpenClaim := { program := "ytclenafidfpinaadoor", sum := "299e697691df4e6ee97069d7c173e597ba865fd6ab8f983f5829eb2ef033e722", func := "almanac/almanaclaw2.CrcJoins", spec := "crcJoins", named := ["almanac/crc.nibbles"], apart := false, laid := [("almanac/crc.nibbles", laid_almanac_crc_nibbles)], narrowed := true }
def CrcJoinsUptoSaid : Prop := crcJoinsUptoRow.holds Tryd.pinned (OpenSpec.upto crcJoinsSpec)

/-- 'almanaclaw2.CrcBursts', WHERE WHAT IT READS IS OF BULK AT MOST 1048576: true; the input reads as it did. -/
def crcBurstsUptoRow : OpenClaim := { program := "ytclenafidfpinaadoor", sum := "299e697691df4e6ee97069d7c173e597ba865fd6ab8f983f5829eb2ef033e722", func := "almanac/almanaclaw2.CrcBursts", spec := "crcBursts", named := ["almanac/crc.nibbles"], apart := false, laid := [("almanac/crc.nibbles", laid_almanac_crc_nibbles)], narrowed := true }
def CrcBurstsUptoSaid : Prop := crcBurstsUptoRow.holds Tryd.pinned (OpenSpec.upto crcBurstsSpec)

/-- 'almanaclaw2.CrcMixes', WHERE WHAT IT READS IS OF BULK AT MOST 1048576: true; the input reads as it did. -/
def crcMixesUptoRow : OpenClaim := { program := "ytclenafidfpinaadoor", sum := "299e697691df4e6ee97069d7c173e597ba865fd6ab8f983f5829eb2ef033e722", func := "almanac/almanaclaw2.CrcMixes", spec := "crcMixes", named := ["almanac/crc.nibbles"], apart := false, laid := [("almanac/crc.nibbles", laid_almanac_crc_nibbles)], narrowed := true }
def CrcMixesUptoSaid : Prop := crcMixesUptoRow.holds Tryd.pinned (OpenSpec.upto crcMixesSpec)

/-- 'almanaclaw2.CrcSplits', WHERE WHAT IT READS IS OF BULK AT MOST 1048576: true; the input reads as it did. -/
def crcSplitsUptoRow : OpenClaim := { program := "ytclenafidfpinaadoor", sum := "299e697691df4e6ee97069d7c173e597ba865fd6ab8f983f5829eb2ef033e722", func := "almanac/almanaclaw2.CrcSplits", spec := "crcSplits", named := ["almanac/crc.nibbles"], apart := false, laid := [("almanac/crc.nibbles", laid_almanac_crc_nibbles)], narrowed := true }
def CrcSplitsUptoSaid : Prop := crcSplitsUptoRow.holds Tryd.pinned (OpenSpec.upto crcSplitsSpec)

/-- 'almanaclaw2.CrcTwice', WHERE WHAT IT READS IS OF BULK AT MOST 1048576: true; the input reads as it did. -/
def crcTwiceUptoRow : OpenClaim := { program := "ytclenafidfpinaadoor", sum := "299e697691df4e6ee97069d7c173e597ba865fd6ab8f983f5829eb2ef033e722", func := "almanac/almanaclaw2.CrcTwice", spec := "crcTwice", named := ["almanac/crc.nibbles"], apart := false, laid := [("almanac/crc.nibbles", laid_almanac_crc_nibbles)], narrowed := true }
def CrcTwiceUptoSaid : Prop := crcTwiceUptoRow.holds Tryd.pinned (OpenSpec.upto crcTwiceSpec)

end Rows
end Go.Proofs.YtclenafidfpinaaDoor
