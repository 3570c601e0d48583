/- What a bound on all that came in says of its parts; numbers and rows of numbers at the level of cells. Conditions: none of its own. -/
import Derived.Test.YtldmamcalfmedaaNum
import Derived.Deep.Matrix
namespace Go.Proofs.Ytldmamcalfmedaa
open Go.ChangeShapes Go.WideShapes Go.ChangeAt Go.RowKit Go.Deep
set_option linter.unusedSimpArgs false
set_option linter.unusedVariables false
def I64 (z : Int) : Prop := -9223372036854775808 ≤ z ∧ z ≤ 9223372036854775807
section
variable {H : Type}
theorem bulk_of {l : List (DataW H)} (h : Rows.uptoSmall H l = true) : Rows.uptoBulkAll l ≤ 1048576 := of_decide_eq_true h
theorem bulk_mem {d : DataW H} : ∀ {l : List (DataW H)}, d ∈ l → Rows.uptoBulk d ≤ Rows.uptoBulkAll l
  | [], h => by cases h
  | x :: r, h => by
    simp only [Rows.uptoBulkAll]
    rcases List.mem_cons.1 h with rfl | h1
    · omega
    · have := bulk_mem h1; omega
theorem bulk_lits (k : IntKind) (zs : List Int) : Rows.uptoBulkAll (lits (H := H) k zs) = zs.length := by
  unfold lits
  induction zs with
  | nil => simp [Rows.uptoBulkAll]
  | cons z r ih => simp only [List.map_cons, Rows.uptoBulkAll, Rows.uptoBulk, List.length_cons, ih]; omega
theorem bulk_sum (f : Nat → DataW H) (g : Nat → Nat) : ∀ (n : Nat), (∀ i, i < n → g i + 1 ≤ Rows.uptoBulk (f i)) → ((List.range n).map g).sum + n ≤ Rows.uptoBulkAll ((List.range n).map f)
  | 0, _ => by simp [Rows.uptoBulkAll]
  | n + 1, h => by
    have app : ∀ (a b : List (DataW H)), Rows.uptoBulkAll (a ++ b) = Rows.uptoBulkAll a + Rows.uptoBulkAll b := by
      intro a b
      induction a with
      | nil => simp [Rows.uptoBulkAll]
      | cons x a ih => simp only [List.cons_append, Rows.uptoBulkAll, ih]; omega
    have ih := bulk_sum f g n (fun i hi => h i (by omega))
    have h1 := h n (by omega)
    rw [List.range_succ, List.map_append, List.map_append, app, List.sum_append]
    simp only [List.map_cons, List.map_nil, Rows.uptoBulkAll, List.sum_cons, List.sum_nil]
    omega
variable {enc : TypeId × Value → H} {P : Program}
theorem trod_nums {W : World} {t e : TypeId} {k : IntKind} {n : Nat} {v : Value} {y : DataW H × List MemPlace} (ht : P.underlying t = some (.slice e)) (he : P.underlying e = some (.int k)) (hc : P.cellsOf e = 1)
    (hf : DataW.trod enc P W 0 (fun _ => true) true n t [v] = some y) : ∃ zs : List Int, RdV W W.heap.size v (iv k zs) ∧ (∀ z ∈ zs, (Lit.int k z).wf = true) ∧ zs.length ≤ Rows.uptoBulk y.1 := by
  rcases open_ints ht he hc hf with ⟨hcs, _⟩ | ⟨a, len, cap, zs, hcs, _, hl, hm, hz, hy, hcell, hwz⟩
  · injection hcs with hcs _
    subst hcs
    exact ⟨[], by exact RdV.nil_ _ _, by simp, by simp⟩
  · injection hcs with hcs _
    subst hcs
    simp only [if_true] at hz
    have hlen : (iv k (zs.take len)).length = len := by rw [iv_length, List.length_take, Nat.min_eq_left (by omega)]
    refine ⟨zs.take len, ⟨some a, cap, ?_, ?_, hm, fun hn => ?_⟩, fun z hz2 => hwz z (List.mem_of_mem_take hz2), ?_⟩
    · rw [hlen]
    · rw [hlen]; exact hl
    · rw [hlen] at hn
      obtain ⟨b, off, spot⟩ := a
      have hspot : spot = none := by simpa [Addr.add] using World.cell?_spot (hcell 0 (by omega))
      subst hspot
      refine ⟨b, off, rfl, ?_, fun j u hu => ?_⟩
      · have := lt_of_cell (hcell 0 (by omega))
        rw [Addr.add_lit] at this
        exact this
      · rw [iv_get] at hu
        have hj : j < len := by
          rcases Nat.lt_or_ge j len with h1 | h1
          · exact h1
          · rw [List.getElem?_eq_none (by rw [List.length_take]; omega)] at hu
            simp at hu
        have hjz : j < zs.length := by omega
        rw [← Addr.add_lit, hcell j hjz, ← hu]
        simp [List.getD, List.getElem?_eq_getElem hjz, List.getElem?_take, hj]
    · rw [hy]
      simp only [Rows.uptoBulk, bulk_lits, List.length_take, List.length_drop]
      omega
theorem trod_bytes {W : World} {t e : TypeId} {n : Nat} {v : Value} {y : DataW H × List MemPlace} (ht : P.underlying t = some (.slice e)) (he : P.underlying e = some (.int .u8)) (hc : P.cellsOf e = 1)
    (hf : DataW.trod enc P W 0 (fun _ => true) true n t [v] = some y) : ∃ l : List UInt8, RdV W W.heap.size v (bv l) ∧ l.length ≤ Rows.uptoBulk y.1 := by
  obtain ⟨zs, h1, h2, h3⟩ := trod_nums ht he hc hf
  refine ⟨zs.map (fun z => UInt8.ofNat z.toNat), ?_, by simpa using h3⟩
  have : bv (zs.map (fun z => UInt8.ofNat z.toNat)) = iv .u8 zs := by
    unfold bv iv
    rw [List.map_map]
    refine List.map_congr_left fun z hz => ?_
    have hw := h2 z hz
    have hrg : 0 ≤ z ∧ z ≤ 255 := by simpa [Lit.wf, IntKind.min, IntKind.max, IntKind.signed, IntKind.bits] using hw
    simp
    omega
  rw [this]; exact h1
theorem trod_i64 {W : World} {t : TypeId} {n : Nat} {cs : List Value} {y : DataW H × List MemPlace} (ht : P.underlying t = some (.int .i64)) (h : DataW.trod enc P W 0 (fun _ => true) true n t cs = some y) : ∃ z : Int, cs = [.int .i64 z] ∧ I64 z ∧ Rows.uptoBulk y.1 = 1 := by
  obtain ⟨z, hcs, hy, hw⟩ := DataW.trod_int ht h
  refine ⟨z, hcs, ?_, by rw [hy]; simp [Rows.uptoBulk]⟩
  simpa [I64, Lit.wf, IntKind.min, IntKind.max, IntKind.signed, IntKind.bits] using hw
end
end Go.Proofs.Ytldmamcalfmedaa
