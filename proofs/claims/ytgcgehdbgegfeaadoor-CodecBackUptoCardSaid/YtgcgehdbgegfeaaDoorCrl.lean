/- What the table reads as when the call begins; rows that were just made. Conditions: none. -/
import Derived.Test.YtgcgehdbgegfeaaDoorCrs
import Derived.LaidMore
import Derived.OpenShut
namespace Go.Proofs.YtgcgehdbgegfeaaDoor
open Go.ChangeShapes Go.WideShapes Go.ChangeAt Go.RowKit
set_option linter.unusedSimpArgs false
set_option linter.unusedVariables false
theorem gNib : Tryd.prog.globalNamed "almanac/crc.nibbles" = some 0 := by kernel_rfl
theorem tNib : (Tryd.prog.globals[0]?).map (·.type) = some 99 := by kernel_rfl
theorem of_laid {W : World} (h : laidMetH Tryd.prog [("almanac/crc.nibbles", Rows.laid_almanac_crc_nibbles)] W) : Nibs W := by
  rw [MakeChecks.laidMetH_plain _ _ _ (by kernel_rfl)] at h
  obtain ⟨ps, ⟨g0, t0, cs0, f0, p0, q0, hg0, ht0, hv0, hd0, _, _⟩, _, _⟩ := h
  obtain rfl := Option.some.inj (gNib.symm.trans hg0)
  obtain rfl := Option.some.inj (tNib.symm.trans ht0)
  have hcell := fun i => World.var?_cell hg0 hv0 i
  obtain ⟨xs, m1, rfl, hx1, hlen, hn3, hel⟩ := DataW.trod_array Tryd.underlying99 hd0
  have c3 : Tryd.prog.cellsOf 52 = 1 := by kernel_rfl
  have hxs : xs.map (·.1) = (Cr.nib.map fun (n : Nat) => (DataW.lit (.int .u32 (n : Int)) : DataW Unit)) := by
    have := congrArg Prod.fst hx1
    simp only [Rows.laid_almanac_crc_nibbles, DataW.agg.injEq] at this
    rw [← this]; rfl
  have each : ∀ i : Nat, i < 16 → cs0[i]? = some (.int .u32 (Cr.nib.getD i 0 : Nat)) := by
    intro i hi
    have h1 := hel i hi
    rw [c3, Nat.mul_one] at h1
    have hxi : i < xs.length := by omega
    rw [List.getElem?_eq_getElem hxi] at h1
    obtain ⟨z, e1, e2, _⟩ := DataW.trod_int Tryd.underlying52 h1
    have h2 : (xs.map (·.1))[i]? = some (DataW.lit (.int .u32 (Cr.nib.getD i 0 : Nat))) := by
      rw [hxs, List.getElem?_map]
      have hn : i < Cr.nib.length := by simpa [Cr.nib] using hi
      rw [List.getElem?_eq_getElem hn, List.getD_eq_getElem?_getD, List.getElem?_eq_getElem hn]; rfl
    rw [List.getElem?_map, List.getElem?_eq_getElem hxi, e2] at h2
    have hz : z = (Cr.nib.getD i 0 : Nat) := by simpa using h2
    rw [hz] at e1
    have h3 : cs0.toList[i]? = some (.int .u32 (Cr.nib.getD i 0 : Nat)) := by
      have := congrArg (·[0]?) e1
      simpa [List.getElem?_take, List.getElem?_drop] using this
    simpa using h3
  have hall : ∀ i : Nat, i < 16 → W.cell? ⟨0, i, none⟩ = some (.int .u32 (Cr.nib.getD i 0 : Nat)) := fun i hi => (hcell i).trans (each i hi)
  exact ⟨lt_of_cell (hall 0 (by omega)), hall⟩
/-- one row, just made -/
theorem RdS.mk1 {w : World} {B : Nat} {x : Value} {l : List UInt8} (h : RdV w B x (bv l)) (hB : B ≤ w.heap.size) (t : TypeId) :
    RdS (w.alloc (.cells #[x] t)) (w.heap.size + 1) (.slice (some ⟨w.heap.size, 0, none⟩) 1 1) [l] := by
  refine ⟨[x], RdV.one w x t, rfl, fun i y m hy hm => ?_⟩
  match i, hy, hm with
  | 0, hy, hm =>
    cases hy; cases hm; exact (h.alloc hB _).more (by omega)
  | n + 1, hy, hm => simp at hy
theorem RdS.mk2 {w : World} {B : Nat} {x y : Value} {l m : List UInt8} (h : RdV w B x (bv l)) (g : RdV w B y (bv m)) (hB : B ≤ w.heap.size) (t : TypeId) :
    RdS (w.alloc (.cells #[x, y] t)) (w.heap.size + 1) (.slice (some ⟨w.heap.size, 0, none⟩) 2 2) [l, m] := by
  refine ⟨[x, y], RdV.lit w [x, y] t (by simp), rfl, fun i z n hz hn => ?_⟩
  match i, hz, hn with
  | 0, hz, hn =>
    cases hz; cases hn; exact (h.alloc hB _).more (by omega)
  | 1, hz, hn =>
    cases hz; cases hn; exact (g.alloc hB _).more (by omega)
  | n + 2, hz, hn => simp at hz
end Go.Proofs.YtgcgehdbgegfeaaDoor
