/- A slice of whole numbers that came in. Conditions: none of its own. -/
import Derived.Test.YtlbodandidopfaaMem
namespace Go.Proofs.Ytlbodandidopfaa
open Go.ChangeShapes Go.WideShapes Go.ChangeAt Go.RowKit
set_option linter.unusedSimpArgs false
set_option linter.unusedVariables false
section
variable {H : Type} {enc : TypeId × Value → H} {P : Program}
def iv (k : IntKind) (zs : List Int) : List Value := zs.map (Value.int k)
theorem iv_length (k : IntKind) (zs : List Int) : (iv k zs).length = zs.length := by simp [iv]
theorem iv_get (k : IntKind) (zs : List Int) (j : Nat) : (iv k zs)[j]? = zs[j]?.map (Value.int k) := by simp [iv]
theorem open_nums {W : World} {base : Nat} {t e : TypeId} {k : IntKind} {v : Value} {d : DataW H} {p : List MemPlace} (ht : P.underlying t = some (.slice e)) (he : P.underlying e = some (.int k)) (hc : P.cellsOf e = 1)
    (hval : Value.okWide P W .any base t v) (h : DataW.Trod enc P W 0 (fun _ => true) true t v d p) : ∃ zs : List Int, RdV W W.heap.size v (iv k zs) ∧ ∀ z ∈ zs, (Lit.int k z).wf = true := by
  obtain ⟨a0, len, cap, rfl⟩ := okWide_slice ht hval
  obtain ⟨fuel, hf⟩ := h
  rcases open_ints ht he hc hf with ⟨hcs, _⟩ | ⟨a, len', cap', zs, hcs, _, hl, hm, hz, _, hcell, hwz⟩
  · simp [Value.cells] at hcs
    obtain ⟨rfl, rfl, rfl⟩ := hcs
    exact ⟨[], RdV.nil_ _ _, fun z hz => by cases hz⟩
  · simp [Value.cells] at hcs
    obtain ⟨rfl, rfl, rfl⟩ := hcs
    simp only [if_true] at hz
    have hlen : (iv k (zs.take len)).length = len := by rw [iv_length, List.length_take, Nat.min_eq_left (by omega)]
    refine ⟨zs.take len, ⟨some a, cap, ?_, ?_, hm, fun hn => ?_⟩, fun z hz2 => hwz z (List.mem_of_mem_take hz2)⟩
    · rw [hlen]
    · rw [hlen]; exact hl
    · rw [hlen] at hn
      obtain ⟨b, off, spot⟩ := a
      have hspot : spot = none := by simpa [Addr.add] using World.cell?_spot (hcell 0 (by omega))
      subst hspot
      refine ⟨b, off, rfl, ?_, fun j u hu => ?_⟩
      · have := lt_of_cell (hcell 0 (by omega))
        rw [Addr.add_lit] at this
        exact this
      · rw [iv_get] at hu
        have hj : j < len := by
          rcases Nat.lt_or_ge j len with h1 | h1
          · exact h1
          · rw [List.getElem?_eq_none (by rw [List.length_take]; omega)] at hu
            simp at hu
        have hjz : j < zs.length := by omega
        rw [← Addr.add_lit, hcell j hjz, ← hu]
        simp [List.getD, List.getElem?_eq_getElem hjz, List.getElem?_take, hj]
end
end Go.Proofs.Ytlbodandidopfaa
