/-
  No cell of these rows narrows 'for every input' (looked for: loops, veiled, ifaces, maps, wideKeys, modest, calm, conditions, laid).
  DERIVED. THE GIVEN ROWS OF THIS SEAT. 10 by the template 'for every input the law returns true; each argument reads behind the call as it read before'; 0 by the template 'total and deterministic' (their statements: YtlbodandidopfaaTotals.lean).
  GIVEN WITH THE SEED: the statements are not yours to turn. If you find one false, say at which input.
  Laid BY PROGRAM, IN A SANDBOX (cutbox-rows.mjs): the forced cells as the released guide's own fill.sh prints them over the translation ecfb64a6968f8cc1… (all of the seat's roots in one cut). By AI agents, Wed Nov 11 2026. No macro, syntax, notation, axiom, sorry.
-/
import Derived.Test.YtlbodandidopfaaChecked
import GoSem.Claim
import GoSem.ClaimJoined
import GoSem.ClaimMapViews
import Derived.JoinedTies
import Derived.KernelRfl
namespace Go.Proofs.Ytlbodandidopfaa
/- THE CELL 'sum', in the pinned program and in every row, IS THE sha256 OF THE DUMP (.gsa) THAT YtlbodandidopfaaProg.lean LOADS. Nothing in Lean hashes anything: it is a label: what it is worth is what the hold of that sum in a sandbox is worth. -/
noncomputable def Try.pinned : Pinned := { name := "ytlbodandidopfaa", sum := "ecfb64a6968f8cc13072381ab1308f5074dd1b9ebac92db47c26907ef2332a22", checked := Try.checked }
namespace Rows
def none {H : Type} : Left H := { results := [], args := [] }

/-- 'almanaclaw6.GeomShapes': WHATEVER THE INPUT: true; the input reads as it did. -/
def geomShapesSpec : ChangeSpec := { name := "geomShapes", fn := fun _ => fun
  | [d1, d2, d3, d4] => { results := [.lit (.bool true)], args := [d1, d2, d3, d4] }
  | _ => none }
def geomShapesRow : OpenClaim := { program := "ytlbodandidopfaa", sum := "ecfb64a6968f8cc13072381ab1308f5074dd1b9ebac92db47c26907ef2332a22", func := "almanac/almanaclaw6.GeomShapes", spec := "geomShapes", apart := false }
def GeomShapesSaid : Prop := geomShapesRow.holds Try.pinned (OpenSpec.ofChange geomShapesSpec)

/-- ITS FALSE NEIGHBOUR: 'it returns false'. Refute it at one input. -/
def geomShapesWrong : ChangeSpec := { name := "geomShapes", fn := fun _ => fun
  | [d1, d2, d3, d4] => { results := [.lit (.bool false)], args := [d1, d2, d3, d4] }
  | _ => none }
def GeomShapesWrongFalsely : Prop := geomShapesRow.holds Try.pinned (OpenSpec.ofChange geomShapesWrong)

/-- 'almanaclaw6.GeomBytes': WHATEVER THE INPUT: true; the input reads as it did. -/
def geomBytesSpec : ChangeSpec := { name := "geomBytes", fn := fun _ => fun
  | [d1, d2] => { results := [.lit (.bool true)], args := [d1, d2] }
  | _ => none }
def geomBytesRow : OpenClaim := { program := "ytlbodandidopfaa", sum := "ecfb64a6968f8cc13072381ab1308f5074dd1b9ebac92db47c26907ef2332a22", func := "almanac/almanaclaw6.GeomBytes", spec := "geomBytes", unfollowed := true, recurses := true, apart := false }
def GeomBytesSaid : Prop := geomBytesRow.holds Try.pinned (OpenSpec.ofChange geomBytesSpec)

/-- ITS FALSE NEIGHBOUR: 'it returns false'. Refute it at one input. -/
def geomBytesWrong : ChangeSpec := { name := "geomBytes", fn := fun _ => fun
  | [d1, d2] => { results := [.lit (.bool false)], args := [d1, d2] }
  | _ => none }
def GeomBytesWrongFalsely : Prop := geomBytesRow.holds Try.pinned (OpenSpec.ofChange geomBytesWrong)

/-- 'almanaclaw6.GeomApart': WHATEVER THE INPUT: true; the input reads as it did. -/
def geomApartSpec : ChangeSpec := { name := "geomApart", fn := fun _ => fun
  | [d1, d2, d3] => { results := [.lit (.bool true)], args := [d1, d2, d3] }
  | _ => none }
def geomApartRow : OpenClaim := { program := "ytlbodandidopfaa", sum := "ecfb64a6968f8cc13072381ab1308f5074dd1b9ebac92db47c26907ef2332a22", func := "almanac/almanaclaw6.GeomApart", spec := "geomApart", apart := false }
def GeomApartSaid : Prop := geomApartRow.holds Try.pinned (OpenSpec.ofChange geomApartSpec)

/-- ITS FALSE NEIGHBOUR: 'it returns false'. Refute it at one input. -/
def geomApartWrong : ChangeSpec := { name := "geomApart", fn := fun _ => fun
  | [d1, d2, d3] => { results := [.lit (.bool false)], args := [d1, d2, d3] }
  | _ => none }
def GeomApartWrongFalsely : Prop := geomApartRow.holds Try.pinned (OpenSpec.ofChange geomApartWrong)

/-- 'almanaclaw6.GeomGrows': WHATEVER THE INPUT: true; the input reads as it did. -/
def geomGrowsSpec : ChangeSpec := { name := "geomGrows", fn := fun _ => fun
  | [d1, d2] => { results := [.lit (.bool true)], args := [d1, d2] }
  | _ => none }
def geomGrowsRow : OpenClaim := { program := "ytlbodandidopfaa", sum := "ecfb64a6968f8cc13072381ab1308f5074dd1b9ebac92db47c26907ef2332a22", func := "almanac/almanaclaw6.GeomGrows", spec := "geomGrows", apart := false }
def GeomGrowsSaid : Prop := geomGrowsRow.holds Try.pinned (OpenSpec.ofChange geomGrowsSpec)

/-- ITS FALSE NEIGHBOUR: 'it returns false'. Refute it at one input. -/
def geomGrowsWrong : ChangeSpec := { name := "geomGrows", fn := fun _ => fun
  | [d1, d2] => { results := [.lit (.bool false)], args := [d1, d2] }
  | _ => none }
def GeomGrowsWrongFalsely : Prop := geomGrowsRow.holds Try.pinned (OpenSpec.ofChange geomGrowsWrong)

/-- 'almanaclaw10.CleanPlans': WHATEVER THE INPUT: true; the input reads as it did. -/
def cleanPlansSpec : ChangeSpec := { name := "cleanPlans", fn := fun _ => fun
  | [d1, d2, d3] => { results := [.lit (.bool true)], args := [d1, d2, d3] }
  | _ => none }
def cleanPlansRow : OpenClaim := { program := "ytlbodandidopfaa", sum := "ecfb64a6968f8cc13072381ab1308f5074dd1b9ebac92db47c26907ef2332a22", func := "almanac/almanaclaw10.CleanPlans", spec := "cleanPlans", unfollowed := true, recurses := true, apart := false }
def CleanPlansSaid : Prop := cleanPlansRow.holds Try.pinned (OpenSpec.ofChange cleanPlansSpec)

/-- ITS FALSE NEIGHBOUR: 'it returns false'. Refute it at one input. -/
def cleanPlansWrong : ChangeSpec := { name := "cleanPlans", fn := fun _ => fun
  | [d1, d2, d3] => { results := [.lit (.bool false)], args := [d1, d2, d3] }
  | _ => none }
def CleanPlansWrongFalsely : Prop := cleanPlansRow.holds Try.pinned (OpenSpec.ofChange cleanPlansWrong)

/-- 'almanaclaw10.CleanSorts': WHATEVER THE INPUT: true; the input reads as it did. -/
def cleanSortsSpec : ChangeSpec := { name := "cleanSorts", fn := fun _ => fun
  | [d1, d2, d3] => { results := [.lit (.bool true)], args := [d1, d2, d3] }
  | _ => none }
def cleanSortsRow : OpenClaim := { program := "ytlbodandidopfaa", sum := "ecfb64a6968f8cc13072381ab1308f5074dd1b9ebac92db47c26907ef2332a22", func := "almanac/almanaclaw10.CleanSorts", spec := "cleanSorts", unfollowed := true, recurses := true, apart := false }
def CleanSortsSaid : Prop := cleanSortsRow.holds Try.pinned (OpenSpec.ofChange cleanSortsSpec)

/-- ITS FALSE NEIGHBOUR: 'it returns false'. Refute it at one input. -/
def cleanSortsWrong : ChangeSpec := { name := "cleanSorts", fn := fun _ => fun
  | [d1, d2, d3] => { results := [.lit (.bool false)], args := [d1, d2, d3] }
  | _ => none }
def CleanSortsWrongFalsely : Prop := cleanSortsRow.holds Try.pinned (OpenSpec.ofChange cleanSortsWrong)

/-- 'almanaclaw10.CleanGreedy': WHATEVER THE INPUT: true; the input reads as it did. -/
def cleanGreedySpec : ChangeSpec := { name := "cleanGreedy", fn := fun _ => fun
  | [d1, d2, d3] => { results := [.lit (.bool true)], args := [d1, d2, d3] }
  | _ => none }
def cleanGreedyRow : OpenClaim := { program := "ytlbodandidopfaa", sum := "ecfb64a6968f8cc13072381ab1308f5074dd1b9ebac92db47c26907ef2332a22", func := "almanac/almanaclaw10.CleanGreedy", spec := "cleanGreedy", unfollowed := true, recurses := true, apart := false }
def CleanGreedySaid : Prop := cleanGreedyRow.holds Try.pinned (OpenSpec.ofChange cleanGreedySpec)

/-- ITS FALSE NEIGHBOUR: 'it returns false'. Refute it at one input. -/
def cleanGreedyWrong : ChangeSpec := { name := "cleanGreedy", fn := fun _ => fun
  | [d1, d2, d3] => { results := [.lit (.bool false)], args := [d1, d2, d3] }
  | _ => none }
def CleanGreedyWrongFalsely : Prop := cleanGreedyRow.holds Try.pinned (OpenSpec.ofChange cleanGreedyWrong)

/-- 'almanaclaw10.CleanOrder': WHATEVER THE INPUT: true; the input reads as it did. -/
def cleanOrderSpec : ChangeSpec := { name := "cleanOrder", fn := fun _ => fun
  | [d1, d2, d3] => { results := [.lit (.bool true)], args := [d1, d2, d3] }
  | _ => none }
def cleanOrderRow : OpenClaim := { program := "ytlbodandidopfaa", sum := "ecfb64a6968f8cc13072381ab1308f5074dd1b9ebac92db47c26907ef2332a22", func := "almanac/almanaclaw10.CleanOrder", spec := "cleanOrder", apart := false }
def CleanOrderSaid : Prop := cleanOrderRow.holds Try.pinned (OpenSpec.ofChange cleanOrderSpec)

/-- ITS FALSE NEIGHBOUR: 'it returns false'. Refute it at one input. -/
def cleanOrderWrong : ChangeSpec := { name := "cleanOrder", fn := fun _ => fun
  | [d1, d2, d3] => { results := [.lit (.bool false)], args := [d1, d2, d3] }
  | _ => none }
def CleanOrderWrongFalsely : Prop := cleanOrderRow.holds Try.pinned (OpenSpec.ofChange cleanOrderWrong)

/-- 'almanaclaw17.ProcsPlays': WHATEVER THE INPUT: true; the input reads as it did. -/
def procsPlaysSpec : ChangeSpec := { name := "procsPlays", fn := fun _ => fun
  | [d1, d2, d3, d4, d5] => { results := [.lit (.bool true)], args := [d1, d2, d3, d4, d5] }
  | _ => none }
def procsPlaysRow : OpenClaim := { program := "ytlbodandidopfaa", sum := "ecfb64a6968f8cc13072381ab1308f5074dd1b9ebac92db47c26907ef2332a22", func := "almanac/almanaclaw17.ProcsPlays", spec := "procsPlays", unfollowed := true, recurses := true, apart := false }
def ProcsPlaysSaid : Prop := procsPlaysRow.holds Try.pinned (OpenSpec.ofChange procsPlaysSpec)

/-- ITS FALSE NEIGHBOUR: 'it returns false'. Refute it at one input. -/
def procsPlaysWrong : ChangeSpec := { name := "procsPlays", fn := fun _ => fun
  | [d1, d2, d3, d4, d5] => { results := [.lit (.bool false)], args := [d1, d2, d3, d4, d5] }
  | _ => none }
def ProcsPlaysWrongFalsely : Prop := procsPlaysRow.holds Try.pinned (OpenSpec.ofChange procsPlaysWrong)

/-- 'almanaclaw17.ProcsLeast': WHATEVER THE INPUT: true; the input reads as it did. -/
def procsLeastSpec : ChangeSpec := { name := "procsLeast", fn := fun _ => fun
  | [d1, d2] => { results := [.lit (.bool true)], args := [d1, d2] }
  | _ => none }
def procsLeastRow : OpenClaim := { program := "ytlbodandidopfaa", sum := "ecfb64a6968f8cc13072381ab1308f5074dd1b9ebac92db47c26907ef2332a22", func := "almanac/almanaclaw17.ProcsLeast", spec := "procsLeast", apart := false }
def ProcsLeastSaid : Prop := procsLeastRow.holds Try.pinned (OpenSpec.ofChange procsLeastSpec)

/-- ITS FALSE NEIGHBOUR: 'it returns false'. Refute it at one input. -/
def procsLeastWrong : ChangeSpec := { name := "procsLeast", fn := fun _ => fun
  | [d1, d2] => { results := [.lit (.bool false)], args := [d1, d2] }
  | _ => none }
def ProcsLeastWrongFalsely : Prop := procsLeastRow.holds Try.pinned (OpenSpec.ofChange procsLeastWrong)

/- THE SECOND FORM. 'bulk': how many values and letters a reading holds, each counted each time it is reached (what is shared counts as often as it is met; a slice's spare places count too). A statement '..UptoSaid' is the law's where the arguments, and the package variables that the reading takes, are together of bulk at most 1048576: NARROWER than '..Said'. Prove '..Said' where nothing that the law and all that it calls make is longer than what came in: it says more and counts as full. Else prove '..UptoSaid'. A law counts once. -/
mutual
def uptoBulk {H : Type} : DataW H → Nat
  | .lit (.string bytes) => bytes.length + 1
  | .lit _ => 1
  | .nil => 1
  | .ptr d => uptoBulk d + 1
  | .slice elems spare => uptoBulkAll elems + uptoBulkAll spare + 1
  | .agg parts => uptoBulkAll parts + 1
  | .iface _ d => uptoBulk d + 1
  | .map entries => uptoBulkEntries entries + 1
  | .held _ => 1
def uptoBulkAll {H : Type} : List (DataW H) → Nat
  | [] => 0
  | d :: r => uptoBulk d + uptoBulkAll r
def uptoBulkEntries {H : Type} : List (Lit × DataW H) → Nat
  | [] => 0
  | x :: r => uptoBulkEntry x + uptoBulkEntries r
def uptoBulkEntry {H : Type} : Lit × DataW H → Nat
  | (.string bytes, d) => bytes.length + uptoBulk d + 1
  | (_, d) => uptoBulk d + 1
 end
def uptoSmall : (H : Type) → List (DataW H) → Bool := fun _ ds => decide (uptoBulkAll ds ≤ 1048576)
def OpenSpec.upto (s : _root_.Go.ChangeSpec) : _root_.Go.OpenSpec := { _root_.Go.OpenSpec.ofChange s with cond := some uptoSmall }

/-- 'almanaclaw6.GeomShapes', WHERE WHAT IT READS IS OF BULK AT MOST 1048576: true; the input reads as it did. -/
def geomShapesUptoRow : OpenClaim := { program := "ytlbodandidopfaa", sum := "ecfb64a6968f8cc13072381ab1308f5074dd1b9ebac92db47c26907ef2332a22", func := "almanac/almanaclaw6.GeomShapes", spec := "geomShapes", apart := false, narrowed := true }
def GeomShapesUptoSaid : Prop := geomShapesUptoRow.holds Try.pinned (OpenSpec.upto geomShapesSpec)

/-- 'almanaclaw6.GeomBytes', WHERE WHAT IT READS IS OF BULK AT MOST 1048576: true; the input reads as it did. -/
def geomBytesUptoRow : OpenClaim := { program := "ytlbodandidopfaa", sum := "ecfb64a6968f8cc13072381ab1308f5074dd1b9ebac92db47c26907ef2332a22", func := "almanac/almanaclaw6.GeomBytes", spec := "geomBytes", unfollowed := true, recurses := true, apart := false, narrowed := true }
def GeomBytesUptoSaid : Prop := geomBytesUptoRow.holds Try.pinned (OpenSpec.upto geomBytesSpec)

/-- 'almanaclaw6.GeomApart', WHERE WHAT IT READS IS OF BULK AT MOST 1048576: true; the input reads as it did. -/
def geomApartUptoRow : OpenClaim := { program := "ytlbodandidopfaa", sum := "ecfb64a6968f8cc13072381ab1308f5074dd1b9ebac92db47c26907ef2332a22", func := "almanac/almanaclaw6.GeomApart", spec := "geomApart", apart := false, narrowed := true }
def GeomApartUptoSaid : Prop := geomApartUptoRow.holds Try.pinned (OpenSpec.upto geomApartSpec)

/-- 'almanaclaw6.GeomGrows', WHERE WHAT IT READS IS OF BULK AT MOST 1048576: true; the input reads as it did. -/
def geomGrowsUptoRow : OpenClaim := { program := "ytlbodandidopfaa", sum := "ecfb64a6968f8cc13072381ab1308f5074dd1b9ebac92db47c26907ef2332a22", func := "almanac/almanaclaw6.GeomGrows", spec := "geomGrows", apart := false, narrowed := true }
def GeomGrowsUptoSaid : Prop := geomGrowsUptoRow.holds Try.pinned (OpenSpec.upto geomGrowsSpec)

/-- 'almanaclaw10.CleanPlans', WHERE WHAT IT READS IS OF BULK AT MOST 1048576: true; the input reads as it did. -/
def cleanPlansUptoRow : OpenClaim := { program := "ytlbodandidopfaa", sum := "ecfb64a6968f8cc13072381ab1308f5074dd1b9ebac92db47c26907ef2332a22", func := "almanac/almanaclaw10.CleanPlans", spec := "cleanPlans", unfollowed := true, recurses := true, apart := false, narrowed := true }
def CleanPlansUptoSaid : Prop := cleanPlansUptoRow.holds Try.pinned (OpenSpec.upto cleanPlansSpec)

/-- 'almanaclaw10.CleanSorts', WHERE WHAT IT READS IS OF BULK AT MOST 1048576: true; the input reads as it did. -/
def cleanSortsUptoRow : OpenClaim := { program := "ytlbodandidopfaa", sum := "ecfb64a6968f8cc13072381ab1308f5074dd1b9ebac92db47c26907ef2332a22", func := "almanac/almanaclaw10.CleanSorts", spec := "cleanSorts", unfollowed := true, recurses := true, apart := false, narrowed := true }
def CleanSortsUptoSaid : Prop := cleanSortsUptoRow.holds Try.pinned (OpenSpec.upto cleanSortsSpec)

/-- 'almanaclaw10.CleanGreedy', WHERE WHAT IT READS IS OF BULK AT MOST 1048576: true; the input reads as it did. -/
def cleanGreedyUptoRow : OpenClaim := { program := "ytlbodandidopfaa", sum := "ecfb64a6968f8cc13072381ab1308f5074dd1b9ebac92db47c26907ef2332a22", func := "almanac/almanaclaw10.CleanGreedy", spec := "cleanGreedy", unfollowed := true, recurses := true, apart := false, narrowed := true }
def CleanGreedyUptoSaid : Prop := cleanGreedyUptoRow.holds Try.pinned (OpenSpec.upto cleanGreedySpec)

/-- 'almanaclaw10.CleanOrder', WHERE WHAT IT READS IS OF BULK AT MOST 1048576: true; the input reads as it did. -/
def cleanOrderUptoRow : OpenClaim := { program := "ytlbodandidopfaa", sum := "ecfb64a6968f8cc13072381ab1308f5074dd1b9ebac92db47c26907ef2332a22", func := "almanac/almanaclaw10.CleanOrder", spec := "cleanOrder", apart := false, narrowed := true }
def CleanOrderUptoSaid : Prop := cleanOrderUptoRow.holds Try.pinned (OpenSpec.upto cleanOrderSpec)

/-- 'almanaclaw17.ProcsPlays', WHERE WHAT IT READS IS OF BULK AT MOST 1048576: true; the input reads as it did. -/
def procsPlaysUptoRow : OpenClaim := { program := "ytlbodandidopfaa", sum := "ecfb64a6968f8cc13072381ab1308f5074dd1b9ebac92db47c26907ef2332a22", func := "almanac/almanaclaw17.ProcsPlays", spec := "procsPlays", unfollowed := true, recurses := true, apart := false, narrowed := true }
def ProcsPlaysUptoSaid : Prop := procsPlaysUptoRow.holds Try.pinned (OpenSpec.upto procsPlaysSpec)

/-- 'almanaclaw17.ProcsLeast', WHERE WHAT IT READS IS OF BULK AT MOST 1048576: true; the input reads as it did. -/
def procsLeastUptoRow : OpenClaim := { program := "ytlbodandidopfaa", sum := "ecfb64a6968f8cc13072381ab1308f5074dd1b9ebac92db47c26907ef2332a22", func := "almanac/almanaclaw17.ProcsLeast", spec := "procsLeast", apart := false, narrowed := true }
def ProcsLeastUptoSaid : Prop := procsLeastUptoRow.holds Try.pinned (OpenSpec.upto procsLeastSpec)

end Rows
end Go.Proofs.Ytlbodandidopfaa
