/- A row of booleans that came in. Conditions: none of its own. -/
import Derived.Test.YtldmamcalfmedaaDsk
import Derived.Deep.Grids
namespace Go.Proofs.Ytldmamcalfmedaa
open Go.ChangeShapes Go.WideShapes Go.ChangeAt Go.RowKit
set_option linter.unusedSimpArgs false
set_option linter.unusedVariables false
section
variable {H : Type} {enc : TypeId × Value → H} {P : Program}
/-- a row of booleans that came in -/
theorem open_boolV {W : World} {base : Nat} {t e : TypeId} {v : Value} {d : DataW H} {p : List MemPlace} (ht : P.underlying t = some (.slice e)) (he : P.underlying e = some .bool) (hc : P.cellsOf e = 1)
    (hval : Value.okWide P W .any base t v) (h : DataW.Trod enc P W 0 (fun _ => true) true t v d p) : ∃ bs : List Bool, RdV W W.heap.size v (boolV bs) := by
  obtain ⟨a0, len, cap, rfl⟩ := okWide_slice ht hval
  obtain ⟨fuel, hf⟩ := h
  rcases Go.Deep.open_bools ht he hc hf with ⟨hcs, _⟩ | ⟨a, len', cap', B, hcs, _, hl, hm, _, hcell⟩
  · simp [Value.cells] at hcs
    obtain ⟨rfl, rfl, rfl⟩ := hcs
    exact ⟨[], RdV.nil_ _ _⟩
  · simp [Value.cells] at hcs
    obtain ⟨rfl, rfl, rfl⟩ := hcs
    have hlen : (boolV ((List.range len).map B)).length = len := by rw [boolV_length, List.length_map, List.length_range]
    refine ⟨(List.range len).map B, ⟨some a, cap, ?_, ?_, hm, fun hn => ?_⟩⟩
    · rw [hlen]
    · rw [hlen]; exact hl
    · rw [hlen] at hn
      obtain ⟨b, off, spot⟩ := a
      have hspot : spot = none := by simpa [Addr.add] using World.cell?_spot (hcell 0 (by omega))
      subst hspot
      refine ⟨b, off, rfl, ?_, fun j u hu => ?_⟩
      · have := lt_of_cell (hcell 0 (by omega))
        rw [Addr.add_lit] at this
        exact this
      · have hj : j < len := by
          rcases Nat.lt_or_ge j len with h1 | h1
          · exact h1
          · rw [List.getElem?_eq_none (by rw [hlen]; exact h1)] at hu
            cases hu
        rw [← Addr.add_lit, hcell j (by omega), ← hu]
        simp [boolV, hj]
end
end Go.Proofs.Ytldmamcalfmedaa
