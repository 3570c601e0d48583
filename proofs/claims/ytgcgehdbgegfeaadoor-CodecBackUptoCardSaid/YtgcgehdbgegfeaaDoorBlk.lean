/- What a bound on all that came in says of its parts; rows of bytes in a row. Conditions: none of its own. -/
import Derived.Test.YtgcgehdbgegfeaaDoorCrs
import Derived.Deep.Matrix
namespace Go.Proofs.YtgcgehdbgegfeaaDoor
open Go.ChangeShapes Go.WideShapes Go.ChangeAt Go.RowKit Go.Deep
set_option linter.unusedSimpArgs false
set_option linter.unusedVariables false
section
variable {H : Type}
theorem bulk_of {l : List (DataW H)} (h : Rows.uptoSmall H l = true) : Rows.uptoBulkAll l ≤ 1048576 := of_decide_eq_true h
theorem bulk_mem {d : DataW H} : ∀ {l : List (DataW H)}, d ∈ l → Rows.uptoBulk d ≤ Rows.uptoBulkAll l
  | [], h => by cases h
  | x :: r, h => by
    simp only [Rows.uptoBulkAll]
    rcases List.mem_cons.1 h with rfl | h1
    · omega
    · have := bulk_mem h1; omega
theorem bulk_lits (k : IntKind) (zs : List Int) : Rows.uptoBulkAll (lits (H := H) k zs) = zs.length := by
  unfold lits
  induction zs with
  | nil => simp [Rows.uptoBulkAll]
  | cons z r ih => simp only [List.map_cons, Rows.uptoBulkAll, Rows.uptoBulk, List.length_cons, ih]; omega
theorem bulk_sum (f : Nat → DataW H) (g : Nat → Nat) : ∀ (n : Nat), (∀ i, i < n → g i + 1 ≤ Rows.uptoBulk (f i)) → ((List.range n).map g).sum + n ≤ Rows.uptoBulkAll ((List.range n).map f)
  | 0, _ => by simp [Rows.uptoBulkAll]
  | n + 1, h => by
    have app : ∀ (a b : List (DataW H)), Rows.uptoBulkAll (a ++ b) = Rows.uptoBulkAll a + Rows.uptoBulkAll b := by
      intro a b
      induction a with
      | nil => simp [Rows.uptoBulkAll]
      | cons x a ih => simp only [List.cons_append, Rows.uptoBulkAll, ih]; omega
    have ih := bulk_sum f g n (fun i hi => h i (by omega))
    have h1 := h n (by omega)
    rw [List.range_succ, List.map_append, List.map_append, app, List.sum_append]
    simp only [List.map_cons, List.map_nil, Rows.uptoBulkAll, List.sum_cons, List.sum_nil]
    omega
variable {enc : TypeId × Value → H} {P : Program}
/-- a row of bytes, and what it counts -/
theorem bytes_bulk {W : World} {base : Nat} {t e : TypeId} {v : Value} {d : DataW H} {p : List MemPlace} {l : List UInt8} (ht : P.underlying t = some (.slice e)) (he : P.underlying e = some (.int .u8)) (hc : P.cellsOf e = 1)
    (hval : Value.okWide P W .any base t v) (h : DataW.Trod enc P W 0 (fun _ => true) true t v d p) (hr : RdV W W.heap.size v (bv l)) : l.length ≤ Rows.uptoBulk d := by
  obtain ⟨a0, len, cap, rfl⟩ := okWide_slice ht hval
  obtain ⟨fuel, hf⟩ := h
  obtain ⟨A', c', ev, _⟩ := hr
  injection ev with ev1 ev2 ev3
  rw [bv_length] at ev2
  rcases open_ints ht he hc hf with ⟨hcs, _⟩ | ⟨a, len', cap', zs, hcs, _, hl, hm, hz, hx, _⟩
  · simp [Value.cells] at hcs
    omega
  · simp [Value.cells] at hcs
    obtain ⟨_, rfl, rfl⟩ := hcs
    simp only [if_true] at hz
    injection hx with hx1 hx2
    subst hx1
    simp only [Rows.uptoBulk, bulk_lits, List.length_take, List.length_drop]
    omega
/-- rows of bytes in a row, and what they count -/
theorem open_byterows {W : World} {base : Nat} {t e q : TypeId} {v : Value} {d : DataW H} {p : List MemPlace} (ht : P.underlying t = some (.slice e)) (he : P.underlying e = some (.slice q)) (hq : P.underlying q = some (.int .u8)) (ce : P.cellsOf e = 1) (cq : P.cellsOf q = 1)
    (hval : Value.okWide P W .any base t v) (h : DataW.Trod enc P W 0 (fun _ => true) true t v d p) : ∃ ls : List (List UInt8), RdS W W.heap.size v ls ∧ (ls.map List.length).sum + ls.length ≤ Rows.uptoBulk d := by
  obtain ⟨a0, len, cap, rfl⟩ := okWide_slice ht hval
  obtain ⟨fuel, hf⟩ := h
  rcases open_int_rows ht he hq ce cq hf with ⟨hcs, _⟩ | ⟨a, len', cap', A, L, C, Z, hcs, _, hl, hm, hx, hcell⟩
  · simp [Value.cells] at hcs
    obtain ⟨rfl, rfl, rfl⟩ := hcs
    exact ⟨[], RdS.nil_ _ _, by simp⟩
  · simp [Value.cells] at hcs
    obtain ⟨rfl, rfl, rfl⟩ := hcs
    obtain ⟨b, off, spot⟩ := a
    have row : ∀ r, r < cap → ∃ l : List UInt8, l.length = L r ∧ RdV W W.heap.size (.slice (A r) (L r) (C r)) (bv l) := by
      intro r hr
      obtain ⟨h1, h2, h3, h4, h5, h6, h7⟩ := hcell r hr
      refine ⟨((Z r).take (L r)).map (fun z => UInt8.ofNat z.toNat), by rw [List.length_map, List.length_take]; omega, A r, C r, ?_, ?_, h3, fun hn => ?_⟩
      · rw [bv_length, List.length_map, List.length_take, Nat.min_eq_left (by omega)]
      · rw [bv_length, List.length_map, List.length_take, Nat.min_eq_left (by omega)]; exact h2
      · rw [bv_length, List.length_map, List.length_take, Nat.min_eq_left (by omega)] at hn
        cases hA : A r with
        | none => have := h6 hA; omega
        | some a' =>
          obtain ⟨b', off', spot'⟩ := a'
          have hc0 := (h7 _ hA).2 0 (by omega)
          have hspot : spot' = none := by simpa [Addr.add] using World.cell?_spot hc0
          subst hspot
          refine ⟨b', off', rfl, ?_, fun j u hu => ?_⟩
          · have := lt_of_cell hc0
            rw [Addr.add_lit] at this
            exact this
          · rw [bv_get] at hu
            have hj : j < L r := by
              rcases Nat.lt_or_ge j (L r) with h1 | h1
              · exact h1
              · rw [List.getElem?_eq_none (by rw [List.length_map, List.length_take]; omega)] at hu
                simp at hu
            have hjz : j < (Z r).length := by omega
            rw [← Addr.add_lit, (h7 _ hA).2 j (by omega), ← hu]
            have hwj := h5 (Z r)[j] (List.getElem_mem hjz)
            have hrg : 0 ≤ (Z r)[j] ∧ (Z r)[j] ≤ 255 := by simpa [Lit.wf, IntKind.min, IntKind.max, IntKind.signed, IntKind.bits] using hwj
            simp [List.getD, List.getElem?_eq_getElem hjz, List.getElem?_map, List.getElem?_take, hj]
            omega
    have hspot : 0 < len → spot = none := fun h0 => by simpa [Addr.add] using World.cell?_spot (hcell 0 (by omega)).1
    obtain ⟨R, hR⟩ : ∃ R : Nat → List UInt8, ∀ r, r < cap → (R r).length = L r ∧ RdV W W.heap.size (.slice (A r) (L r) (C r)) (bv (R r)) := by
      refine ⟨fun r => if h : r < cap then (row r h).choose else [], fun r hr => ?_⟩
      simp only [hr, dif_pos]
      exact (row r hr).choose_spec
    refine ⟨(List.range len).map R, ⟨(List.range len).map (fun r => .slice (A r) (L r) (C r)), ⟨some ⟨b, off, spot⟩, cap, by simp, by simpa using hl, hm, fun hn => ?_⟩, by simp, fun i x l hx hl2 => ?_⟩, ?_⟩
    · simp at hn
      have hs := hspot hn
      subst hs
      refine ⟨b, off, rfl, ?_, fun j u hu => ?_⟩
      · have := lt_of_cell (hcell 0 (by omega)).1
        rw [Addr.add_lit] at this
        exact this
      · have hj : j < len := by
          rcases Nat.lt_or_ge j len with h1 | h1
          · exact h1
          · rw [List.getElem?_eq_none (by simpa using h1)] at hu; cases hu
        rw [List.getElem?_map, List.getElem?_range hj] at hu
        have e := Option.some.inj hu
        rw [← e, ← Addr.add_lit]
        exact (hcell j (by omega)).1
    · have hi : i < len := by
        rcases Nat.lt_or_ge i len with h1 | h1
        · exact h1
        · rw [List.getElem?_eq_none (by simpa using h1)] at hx; cases hx
      rw [List.getElem?_map, List.getElem?_range hi] at hx hl2
      have e1 := Option.some.inj hx
      have e2 := Option.some.inj hl2
      rw [← e1, ← e2]
      exact (hR i (by omega)).2
    · injection hx with hx1 hx2
      subst hx1
      have hb := bulk_sum (H := H) (fun r => intRow .u8 (A r) (L r) (Z r)) L len (fun i hi => by
        obtain ⟨h1, h2, h3, h4, h5, h6, h7⟩ := hcell i (by omega)
        cases hA : A i with
        | none => have := h6 hA; simp only [intRow, Rows.uptoBulk]; omega
        | some a' => simp only [intRow, Rows.uptoBulk, bulk_lits, List.length_take, List.length_drop]; omega)
      have hm2 : ((List.range len).map R).map List.length = (List.range len).map L := by
        rw [List.map_map]
        exact List.map_congr_left fun r hr => (hR r (by have := List.mem_range.1 hr; omega)).1
      rw [hm2]
      simp only [Rows.uptoBulk, List.length_map, List.length_range]
      omega
end
end Go.Proofs.YtgcgehdbgegfeaaDoor
