/- What values of an open-ordered statement may be said to be: rows that read as lists. Conditions: none of its own. -/
import Derived.Test.YtlbodandidopfaaInv
import Derived.Test.YtlbodandidopfaaMem
namespace Go.Proofs.Ytlbodandidopfaa
open Go.ChangeShapes Go.WideShapes Go.ChangeAt Go.RowKit

/-- a row that reads as a list, wherever it lies -/
def DRow (xs : List Value) : Spec := fun v w => RdV w w.heap.size v xs
theorem DRow.stable (xs : List Value) : Stable (DRow xs) := fun _ _ _ h hg => (RdV.below h hg).more hg.size
theorem DRow.form {xs : List Value} {v : Value} {w0 : World} (h : ∃ w, Grow w0 w ∧ DRow xs v w) : ∃ A c, v = .slice A xs.length c ∧ xs.length ≤ c ∧ c ≤ maxLen := by
  obtain ⟨w, _, A, c, h1, h2, h3, _⟩ := h
  exact ⟨A, c, h1, h2, h3⟩
theorem Grow.rd {w w' : World} (h : Grow w w') {v : Value} {xs : List Value} {B : Nat} (hr : RdV w B v xs) (hB : B ≤ w.heap.size) : RdV w' B v xs := RdV.below' hr h hB
theorem Grow.below {w0 w w' : World} (h : Grow w w') {B : Nat} (hb : Below B w0 w) (hB : B ≤ w0.heap.size) : Below B w0 w' := hb.trans (h.mono (Nat.le_trans hB hb.size))
end Go.Proofs.Ytlbodandidopfaa
