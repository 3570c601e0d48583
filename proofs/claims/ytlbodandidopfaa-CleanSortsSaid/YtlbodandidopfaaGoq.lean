/- Opening a shape that came in, beside Mem. Conditions: none of its own. Made out of XGop: not beside it. -/
import Derived.Test.YtlbodandidopfaaMem
import Derived.Test.YtlbodandidopfaaGeo
import Derived.Deep.Fields
import Derived.Carry
namespace Go.Proofs.Ytlbodandidopfaa
open Go.ChangeShapes Go.WideShapes Go.ChangeAt Go.RowKit Go.Deep
set_option linter.unusedSimpArgs false
set_option linter.unusedVariables false
section
variable {H : Type} {enc : TypeId × Value → H} {P : Program}
/-- a struct of whole numbers alone -/
theorem open_numbers {W : World} {base : Nat} {t T : TypeId} {fs : Array Field} {v : Value} {d : DataW H} {p : List MemPlace} (hs : P.underlying t = some (.struct fs)) (hone : oneCellFields P fs = true) (hC : P.cellsOf t = fs.size)
    (hT : P.underlying T = some (.int .i64)) (hall : fs.toList.all (fun f => f.type == T) = true)
    (hv : Value.okWide P W .any base t v) (h : DataW.Trod enc P W 0 (fun _ => true) true t v d p) :
    ∃ zs : List Int, zs.length = fs.size ∧ v = .agg (zs.map (Value.int .i64)).toArray ∧ ∀ z ∈ zs, -9223372036854775808 ≤ z ∧ z ≤ 9223372036854775807 := by
  obtain ⟨cs, rfl, hsz⟩ := okWide_struct hs hv
  obtain ⟨fuel, hf⟩ := h
  obtain ⟨xs, n, _, hx, _, hlen, hg⟩ := DataW.trod_struct hs hf
  have each : ∀ (i : Nat) (hi : i < cs.size), ∃ z : Int, cs[i] = .int .i64 z ∧ -9223372036854775808 ≤ z ∧ z ≤ 9223372036854775807 := by
    intro i hi
    have hif : i < fs.size := by omega
    have hfi : fs[i]? = some fs[i] := Array.getElem?_eq_getElem hif
    obtain ⟨o0, k0⟩ := hone_of hone i fs[i] hfi
    have h1 := hg i fs[i] hfi
    have hty : fs[i].type = T := by
      have := List.all_eq_true.1 hall fs[i] (Array.getElem_mem_toList hif)
      simpa using this
    have hcl : (Value.agg cs).cells = cs := rfl
    rw [o0, k0, hcl, hty] at h1
    have hone' : (cs.toList.drop i).take 1 = [cs[i]] := by
      rw [List.drop_eq_getElem_cons (by simpa using hi)]
      rfl
    rw [hone'] at h1
    have hxi : i < xs.length := by omega
    rw [List.getElem?_eq_getElem hxi] at h1
    obtain ⟨z, hz1, _, hz2⟩ := DataW.trod_int hT h1
    refine ⟨z, by simpa using hz1, ?_⟩
    simpa [Lit.wf, IntKind.min, IntKind.max, IntKind.signed, IntKind.bits] using hz2
  refine ⟨cs.toList.map intOf, by simp; omega, ?_, ?_⟩
  · congr 1
    apply Array.ext
    · simp
    · intro i h1 h2
      obtain ⟨z, hz, _⟩ := each i h1
      simp [hz, intOf]
  · intro z hz
    obtain ⟨u, hu, rfl⟩ := List.mem_map.1 hz
    obtain ⟨i, hi, rfl⟩ := List.getElem_of_mem hu
    obtain ⟨z, hz, hz2⟩ := each i (by simpa using hi)
    simp only [Array.getElem_toList, hz, intOf]
    exact hz2
theorem open_cfg {W : World} {base : Nat} {t T : TypeId} {fs : Array Field} {v : Value} {d : DataW H} {p : List MemPlace} (hs : P.underlying t = some (.struct fs)) (hone : oneCellFields P fs = true) (hC : P.cellsOf t = fs.size) (h9 : fs.size = 9)
    (hT : P.underlying T = some (.int .i64)) (hall : fs.toList.all (fun f => f.type == T) = true)
    (hv : Value.okWide P W .any base t v) (h : DataW.Trod enc P W 0 (fun _ => true) true t v d p) : ∃ c : Cfg, v = c.val ∧ c.Fits := by
  obtain ⟨zs, hl, rfl, hz⟩ := open_numbers hs hone hC hT hall hv h
  rw [h9] at hl
  match zs, hl with
  | [z0, z1, z2, z3, z4, z5, z6, z7, z8], _ =>
    exact ⟨⟨z0, z1, z2, z3, z4, z5, z6, z7, z8⟩, rfl, ⟨hz _ (by simp), hz _ (by simp), hz _ (by simp), hz _ (by simp), hz _ (by simp), hz _ (by simp), hz _ (by simp), hz _ (by simp), hz _ (by simp)⟩⟩
end
end Go.Proofs.Ytlbodandidopfaa
