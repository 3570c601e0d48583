/-
  DERIVED. GIVEN WITH THE SEED: THE CARDS: each row of YtgcgehdbgegfeaaDoorRows.lean that lists a variable, with what it lists TIED to the program's text (the seventh form; the later family's looks); each row that meets fmt, with fmt's text TOLD by the authors' own Lean function (tested against real Go, not proved from fmt's source: count such statements apart). THE CARD IS WHAT COUNTS. Prove the row's statement (the work); the ties are given (YtgcgehdbgegfeaaDoorTie.lean); close each card by the builder's one call (the guide's Derived/Test/ToyasCard.lean, 'card_holds'). Laid BY PROGRAM, IN A SANDBOX (cutbox-door.mjs). By AI agents, Wed Nov 11 2026. No macro, syntax, notation, axiom, sorry.
-/
import Derived.Test.YtgcgehdbgegfeaaDoorRows
import GoSem.ClaimSeven
namespace Go.Proofs.YtgcgehdbgegfeaaDoor
namespace Rows

/-- THE TIED CARD OF 'almanaclaw3.CodecRecords'. -/
def codecRecordsCard : Claim7 := { stood := { row := codecRecordsRow, standIns := [], harness := (true, "702253ba5066e8a2ac1be38e694d84ef8a551f7330da865e4aa715c5469da970"), looks := true }, kinds := [], alts := [], laidByText := true, laidKinds := [.data], laidTests := true, laidLooks := .later }
def CodecRecordsCardSaid : Prop := Claim7.holds Tryd.pinned (.plain (OpenSpec.ofChange codecRecordsSpec)) codecRecordsCard

/-- THE TIED CARD OF 'almanaclaw3.CodecFrames'. -/
def codecFramesCard : Claim7 := { stood := { row := codecFramesRow, standIns := [], harness := (true, "702253ba5066e8a2ac1be38e694d84ef8a551f7330da865e4aa715c5469da970"), looks := true }, kinds := [], alts := [], laidByText := true, laidKinds := [.data], laidTests := true, laidLooks := .later }
def CodecFramesCardSaid : Prop := Claim7.holds Tryd.pinned (.plain (OpenSpec.ofChange codecFramesSpec)) codecFramesCard

/-- THE TIED CARD OF 'almanaclaw3.CodecBack'. -/
def codecBackCard : Claim7 := { stood := { row := codecBackRow, standIns := [], harness := (true, "702253ba5066e8a2ac1be38e694d84ef8a551f7330da865e4aa715c5469da970"), looks := true }, kinds := [], alts := [], laidByText := true, laidKinds := [.data], laidTests := true, laidLooks := .later }
def CodecBackCardSaid : Prop := Claim7.holds Tryd.pinned (.plain (OpenSpec.ofChange codecBackSpec)) codecBackCard

/-- THE TIED CARD OF 'almanaclaw3.CodecBursts'. -/
def codecBurstsCard : Claim7 := { stood := { row := codecBurstsRow, standIns := [], harness := (true, "702253ba5066e8a2ac1be38e694d84ef8a551f7330da865e4aa715c5469da970"), looks := true }, kinds := [], alts := [], laidByText := true, laidKinds := [.data], laidTests := true, laidLooks := .later }
def CodecBurstsCardSaid : Prop := Claim7.holds Tryd.pinned (.plain (OpenSpec.ofChange codecBurstsSpec)) codecBurstsCard

/-- THE TIED CARD OF 'almanaclaw3.CodecFronts'. -/
def codecFrontsCard : Claim7 := { stood := { row := codecFrontsRow, standIns := [], harness := (true, "702253ba5066e8a2ac1be38e694d84ef8a551f7330da865e4aa715c5469da970"), looks := true }, kinds := [], alts := [], laidByText := true, laidKinds := [.data], laidTests := true, laidLooks := .later }
def CodecFrontsCardSaid : Prop := Claim7.holds Tryd.pinned (.plain (OpenSpec.ofChange codecFrontsSpec)) codecFrontsCard

/-- THE TIED CARD OF 'almanaclaw3.CodecStays'. -/
def codecStaysCard : Claim7 := { stood := { row := codecStaysRow, standIns := [], harness := (true, "702253ba5066e8a2ac1be38e694d84ef8a551f7330da865e4aa715c5469da970"), looks := true }, kinds := [], alts := [], laidByText := true, laidKinds := [.data], laidTests := true, laidLooks := .later }
def CodecStaysCardSaid : Prop := Claim7.holds Tryd.pinned (.plain (OpenSpec.ofChange codecStaysSpec)) codecStaysCard

/-- THE SECOND FORM's CARD OF 'almanaclaw3.CodecRecords'. -/
def codecRecordsUptoCard : Claim7 := { stood := { row := codecRecordsUptoRow, standIns := [], harness := (true, "702253ba5066e8a2ac1be38e694d84ef8a551f7330da865e4aa715c5469da970"), looks := true }, kinds := [], alts := [], laidByText := true, laidKinds := [.data], laidTests := true, laidLooks := .later }
def CodecRecordsUptoCardSaid : Prop := Claim7.holds Tryd.pinned (.plain (OpenSpec.upto codecRecordsSpec)) codecRecordsUptoCard

/-- THE SECOND FORM's CARD OF 'almanaclaw3.CodecFrames'. -/
def codecFramesUptoCard : Claim7 := { stood := { row := codecFramesUptoRow, standIns := [], harness := (true, "702253ba5066e8a2ac1be38e694d84ef8a551f7330da865e4aa715c5469da970"), looks := true }, kinds := [], alts := [], laidByText := true, laidKinds := [.data], laidTests := true, laidLooks := .later }
def CodecFramesUptoCardSaid : Prop := Claim7.holds Tryd.pinned (.plain (OpenSpec.upto codecFramesSpec)) codecFramesUptoCard

/-- THE SECOND FORM's CARD OF 'almanaclaw3.CodecBack'. -/
def codecBackUptoCard : Claim7 := { stood := { row := codecBackUptoRow, standIns := [], harness := (true, "702253ba5066e8a2ac1be38e694d84ef8a551f7330da865e4aa715c5469da970"), looks := true }, kinds := [], alts := [], laidByText := true, laidKinds := [.data], laidTests := true, laidLooks := .later }
def CodecBackUptoCardSaid : Prop := Claim7.holds Tryd.pinned (.plain (OpenSpec.upto codecBackSpec)) codecBackUptoCard

/-- THE SECOND FORM's CARD OF 'almanaclaw3.CodecBursts'. -/
def codecBurstsUptoCard : Claim7 := { stood := { row := codecBurstsUptoRow, standIns := [], harness := (true, "702253ba5066e8a2ac1be38e694d84ef8a551f7330da865e4aa715c5469da970"), looks := true }, kinds := [], alts := [], laidByText := true, laidKinds := [.data], laidTests := true, laidLooks := .later }
def CodecBurstsUptoCardSaid : Prop := Claim7.holds Tryd.pinned (.plain (OpenSpec.upto codecBurstsSpec)) codecBurstsUptoCard

/-- THE SECOND FORM's CARD OF 'almanaclaw3.CodecFronts'. -/
def codecFrontsUptoCard : Claim7 := { stood := { row := codecFrontsUptoRow, standIns := [], harness := (true, "702253ba5066e8a2ac1be38e694d84ef8a551f7330da865e4aa715c5469da970"), looks := true }, kinds := [], alts := [], laidByText := true, laidKinds := [.data], laidTests := true, laidLooks := .later }
def CodecFrontsUptoCardSaid : Prop := Claim7.holds Tryd.pinned (.plain (OpenSpec.upto codecFrontsSpec)) codecFrontsUptoCard

/-- THE SECOND FORM's CARD OF 'almanaclaw3.CodecStays'. -/
def codecStaysUptoCard : Claim7 := { stood := { row := codecStaysUptoRow, standIns := [], harness := (true, "702253ba5066e8a2ac1be38e694d84ef8a551f7330da865e4aa715c5469da970"), looks := true }, kinds := [], alts := [], laidByText := true, laidKinds := [.data], laidTests := true, laidLooks := .later }
def CodecStaysUptoCardSaid : Prop := Claim7.holds Tryd.pinned (.plain (OpenSpec.upto codecStaysSpec)) codecStaysUptoCard
end Rows
end Go.Proofs.YtgcgehdbgegfeaaDoor
