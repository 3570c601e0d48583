/- A slice of items (structs of six fields, two of them slices) that came in. Conditions: none of its own. -/
import Derived.Test.YtgcgehdbgegfeaaDoorBlk
import Derived.Test.YtgcgehdbgegfeaaDoorNum
namespace Go.Proofs.YtgcgehdbgegfeaaDoor
open Go.ChangeShapes Go.WideShapes Go.ChangeAt Go.RowKit Go.Deep
set_option linter.unusedSimpArgs false
set_option linter.unusedVariables false
structure It where
  k : Int
  v : Int
  B : List UInt8
  L : List Int
  lo : Int
  hi : Int
  deriving Inhabited
def I64 (z : Int) : Prop := -9223372036854775808 ≤ z ∧ z ≤ 9223372036854775807
def It.wf (x : It) : Prop := I64 x.k ∧ I64 x.v ∧ (∀ z ∈ x.L, I64 z) ∧ I64 x.lo ∧ I64 x.hi
def ItAt (w : World) (C b o : Nat) (x : It) : Prop :=
  w.cell? ⟨b, o, none⟩ = some (.int .i64 x.k) ∧ w.cell? ⟨b, o + 1, none⟩ = some (.int .i64 x.v) ∧ (∃ u, w.cell? ⟨b, o + 2, none⟩ = some u ∧ RdV w C u (bv x.B)) ∧ (∃ u, w.cell? ⟨b, o + 3, none⟩ = some u ∧ RdV w C u (iv .i64 x.L)) ∧ w.cell? ⟨b, o + 4, none⟩ = some (.int .i64 x.lo) ∧ w.cell? ⟨b, o + 5, none⟩ = some (.int .i64 x.hi)
def RdIt (w : World) (C : Nat) (v : Value) (xs : List It) : Prop :=
  ∃ A c, v = .slice A xs.length c ∧ xs.length ≤ c ∧ c ≤ maxLen ∧ (0 < xs.length → ∃ b off, A = some ⟨b, off, none⟩ ∧ b < C ∧ ∀ (i : Nat) (x : It), xs[i]? = some x → ItAt w C b (off + i * 6) x)
section
variable {H : Type} {enc : TypeId × Value → H} {P : Program}
theorem trod_nums {W : World} {t e : TypeId} {k : IntKind} {n : Nat} {v : Value} {y : DataW H × List MemPlace} (ht : P.underlying t = some (.slice e)) (he : P.underlying e = some (.int k)) (hc : P.cellsOf e = 1)
    (hf : DataW.trod enc P W 0 (fun _ => true) true n t [v] = some y) : ∃ zs : List Int, RdV W W.heap.size v (iv k zs) ∧ (∀ z ∈ zs, (Lit.int k z).wf = true) ∧ zs.length ≤ Rows.uptoBulk y.1 := by
  rcases open_ints ht he hc hf with ⟨hcs, _⟩ | ⟨a, len, cap, zs, hcs, _, hl, hm, hz, hy, hcell, hwz⟩
  · injection hcs with hcs _
    subst hcs
    exact ⟨[], by exact RdV.nil_ _ _, by simp, by simp⟩
  · injection hcs with hcs _
    subst hcs
    simp only [if_true] at hz
    have hlen : (iv k (zs.take len)).length = len := by rw [iv_length, List.length_take, Nat.min_eq_left (by omega)]
    refine ⟨zs.take len, ⟨some a, cap, ?_, ?_, hm, fun hn => ?_⟩, fun z hz2 => hwz z (List.mem_of_mem_take hz2), ?_⟩
    · rw [hlen]
    · rw [hlen]; exact hl
    · rw [hlen] at hn
      obtain ⟨b, off, spot⟩ := a
      have hspot : spot = none := by simpa [Addr.add] using World.cell?_spot (hcell 0 (by omega))
      subst hspot
      refine ⟨b, off, rfl, ?_, fun j u hu => ?_⟩
      · have := lt_of_cell (hcell 0 (by omega))
        rw [Addr.add_lit] at this
        exact this
      · rw [iv_get] at hu
        have hj : j < len := by
          rcases Nat.lt_or_ge j len with h1 | h1
          · exact h1
          · rw [List.getElem?_eq_none (by rw [List.length_take]; omega)] at hu
            simp at hu
        have hjz : j < zs.length := by omega
        rw [← Addr.add_lit, hcell j hjz, ← hu]
        simp [List.getD, List.getElem?_eq_getElem hjz, List.getElem?_take, hj]
    · rw [hy]
      simp only [Rows.uptoBulk, bulk_lits, List.length_take, List.length_drop]
      omega
theorem trod_bytes {W : World} {t e : TypeId} {n : Nat} {v : Value} {y : DataW H × List MemPlace} (ht : P.underlying t = some (.slice e)) (he : P.underlying e = some (.int .u8)) (hc : P.cellsOf e = 1)
    (hf : DataW.trod enc P W 0 (fun _ => true) true n t [v] = some y) : ∃ l : List UInt8, RdV W W.heap.size v (bv l) ∧ l.length ≤ Rows.uptoBulk y.1 := by
  obtain ⟨zs, h1, h2, h3⟩ := trod_nums ht he hc hf
  refine ⟨zs.map (fun z => UInt8.ofNat z.toNat), ?_, by simpa using h3⟩
  have : bv (zs.map (fun z => UInt8.ofNat z.toNat)) = iv .u8 zs := by
    unfold bv iv
    rw [List.map_map]
    refine List.map_congr_left fun z hz => ?_
    have hw := h2 z hz
    have hrg : 0 ≤ z ∧ z ≤ 255 := by simpa [Lit.wf, IntKind.min, IntKind.max, IntKind.signed, IntKind.bits] using hw
    simp
    omega
  rw [this]; exact h1
theorem trod_i64 {W : World} {t : TypeId} {n : Nat} {cs : List Value} {y : DataW H × List MemPlace} (ht : P.underlying t = some (.int .i64)) (h : DataW.trod enc P W 0 (fun _ => true) true n t cs = some y) : ∃ z : Int, cs = [.int .i64 z] ∧ I64 z ∧ Rows.uptoBulk y.1 = 1 := by
  obtain ⟨z, hcs, hy, hw⟩ := DataW.trod_int ht h
  refine ⟨z, hcs, ?_, by rw [hy]; simp [Rows.uptoBulk]⟩
  simpa [I64, Lit.wf, IntKind.min, IntKind.max, IntKind.signed, IntKind.bits] using hw
/-- one item, from its six cells -/
theorem trod_item {W : World} {t eB eL : TypeId} {f0 f1 f2 f3 f4 f5 : Field} {n : Nat} {cs : List Value} {y : DataW H × List MemPlace} (hs : P.underlying t = some (.struct #[f0, f1, f2, f3, f4, f5])) (hC : P.cellsOf t = 6)
    (o0 : f0.offset = 0) (o1 : f1.offset = 1) (o2 : f2.offset = 2) (o3 : f3.offset = 3) (o4 : f4.offset = 4) (o5 : f5.offset = 5)
    (c0 : P.cellsOf f0.type = 1) (c1 : P.cellsOf f1.type = 1) (c2 : P.cellsOf f2.type = 1) (c3 : P.cellsOf f3.type = 1) (c4 : P.cellsOf f4.type = 1) (c5 : P.cellsOf f5.type = 1)
    (u0 : P.underlying f0.type = some (.int .i64)) (u1 : P.underlying f1.type = some (.int .i64)) (u2 : P.underlying f2.type = some (.slice eB)) (u3 : P.underlying f3.type = some (.slice eL)) (u4 : P.underlying f4.type = some (.int .i64)) (u5 : P.underlying f5.type = some (.int .i64))
    (b2 : P.underlying eB = some (.int .u8)) (b3 : P.underlying eL = some (.int .i64)) (d2 : P.cellsOf eB = 1) (d3 : P.cellsOf eL = 1)
    (h : DataW.trod enc P W 0 (fun _ => true) true n t cs = some y) :
    ∃ (x : It) (uB uL : Value), cs = [.int .i64 x.k, .int .i64 x.v, uB, uL, .int .i64 x.lo, .int .i64 x.hi] ∧ x.wf ∧ RdV W W.heap.size uB (bv x.B) ∧ RdV W W.heap.size uL (iv .i64 x.L) ∧ x.B.length + x.L.length + 1 ≤ Rows.uptoBulk y.1 := by
  obtain ⟨xs, m, _, rfl, hl, hlen, hf⟩ := DataW.trod_struct hs h
  rw [hC] at hl
  match xs, hlen, cs, hl with
  | [y0, y1, y2, y3, y4, y5], _, [v0, v1, v2, v3, v4, v5], _ =>
    have g0 := hf 0 f0 rfl
    have g1 := hf 1 f1 rfl
    have g2 := hf 2 f2 rfl
    have g3 := hf 3 f3 rfl
    have g4 := hf 4 f4 rfl
    have g5 := hf 5 f5 rfl
    simp [o0, o1, o2, o3, o4, o5, c0, c1, c2, c3, c4, c5] at g0 g1 g2 g3 g4 g5
    obtain ⟨z0, e0, w0, k0⟩ := trod_i64 u0 g0
    obtain ⟨z1, e1, w1, k1⟩ := trod_i64 u1 g1
    obtain ⟨l2, r2, k2⟩ := trod_bytes u2 b2 d2 g2
    obtain ⟨l3, r3, w3, k3⟩ := trod_nums u3 b3 d3 g3
    obtain ⟨z4, e4, w4, k4⟩ := trod_i64 u4 g4
    obtain ⟨z5, e5, w5, k5⟩ := trod_i64 u5 g5
    injection e0 with e0 _
    injection e1 with e1 _
    injection e4 with e4 _
    injection e5 with e5 _
    subst e0 e1 e4 e5
    refine ⟨⟨z0, z1, l2, l3, z4, z5⟩, v2, v3, rfl, ⟨w0, w1, fun z hz => ?_, w4, w5⟩, r2, r3, ?_⟩
    · simpa [I64, Lit.wf, IntKind.min, IntKind.max, IntKind.signed, IntKind.bits] using w3 z hz
    · simp only [List.map_cons, List.map_nil, Rows.uptoBulk, Rows.uptoBulkAll]
      omega
theorem open_items {W : World} {base : Nat} {t e eB eL : TypeId} {v : Value} {d : DataW H} {p : List MemPlace} {f0 f1 f2 f3 f4 f5 : Field} (ht : P.underlying t = some (.slice e)) (hs : P.underlying e = some (.struct #[f0, f1, f2, f3, f4, f5])) (hC : P.cellsOf e = 6)
    (o0 : f0.offset = 0) (o1 : f1.offset = 1) (o2 : f2.offset = 2) (o3 : f3.offset = 3) (o4 : f4.offset = 4) (o5 : f5.offset = 5)
    (c0 : P.cellsOf f0.type = 1) (c1 : P.cellsOf f1.type = 1) (c2 : P.cellsOf f2.type = 1) (c3 : P.cellsOf f3.type = 1) (c4 : P.cellsOf f4.type = 1) (c5 : P.cellsOf f5.type = 1)
    (u0 : P.underlying f0.type = some (.int .i64)) (u1 : P.underlying f1.type = some (.int .i64)) (u2 : P.underlying f2.type = some (.slice eB)) (u3 : P.underlying f3.type = some (.slice eL)) (u4 : P.underlying f4.type = some (.int .i64)) (u5 : P.underlying f5.type = some (.int .i64))
    (b2 : P.underlying eB = some (.int .u8)) (b3 : P.underlying eL = some (.int .i64)) (d2 : P.cellsOf eB = 1) (d3 : P.cellsOf eL = 1)
    (hval : Value.okWide P W .any base t v) (h : DataW.Trod enc P W 0 (fun _ => true) true t v d p) : ∃ xs : List It, RdIt W W.heap.size v xs ∧ (∀ x ∈ xs, x.wf) ∧ (xs.map (fun x => x.B.length + x.L.length)).sum + xs.length ≤ Rows.uptoBulk d := by
  obtain ⟨a0, len, cap, rfl⟩ := okWide_slice ht hval
  obtain ⟨fuel, hf⟩ := h
  rcases open_slice ht hf with ⟨hcs, _⟩ | ⟨a, len', cap', m, n, D, Pl, hcs, _, hl, hm, hmm, hx, hcell⟩
  · simp [Value.cells] at hcs
    obtain ⟨rfl, rfl, rfl⟩ := hcs
    exact ⟨[], ⟨none, 0, rfl, by simp, by unfold maxLen; omega, fun h => by simp at h⟩, by simp, by simp⟩
  · simp [Value.cells] at hcs
    obtain ⟨rfl, rfl, rfl⟩ := hcs
    simp only [if_true] at hmm
    rw [hC] at hcell
    obtain ⟨b, off, spot⟩ := a
    have hspot0 : 0 < len → spot = none := fun h0 => by
      obtain ⟨cs, h1, _⟩ := hcell 0 (by omega)
      obtain ⟨_, hln, hc⟩ := World.cells?_some h1
      have hc0 := (hc 0 (by omega)).trans (List.getElem?_eq_getElem (by omega))
      simpa [Addr.add] using World.cell?_spot hc0
    have each : ∀ i, i < len → ∃ x : It, x.wf ∧ x.B.length + x.L.length + 1 ≤ Rows.uptoBulk (D i) ∧ spot = none ∧ b < W.heap.size ∧ (spot = none → ItAt W W.heap.size b (off + i * 6) x) := by
      intro i hi
      obtain ⟨cs, h1, h2⟩ := hcell i (by omega)
      obtain ⟨x, uB, uL, rfl, hw, hB, hL, hbk⟩ := trod_item hs hC o0 o1 o2 o3 o4 o5 c0 c1 c2 c3 c4 c5 u0 u1 u2 u3 u4 u5 b2 b3 d2 d3 h2
      obtain ⟨_, _, hc⟩ := World.cells?_some h1
      have hc0 := hc 0 (by omega)
      have hc1 := hc 1 (by omega)
      have hc2 := hc 2 (by omega)
      have hc3 := hc 3 (by omega)
      have hc4 := hc 4 (by omega)
      have hc5 := hc 5 (by omega)
      simp at hc0 hc1 hc2 hc3 hc4 hc5
      have hspot : spot = none := hspot0 (by omega)
      subst hspot
      simp only [Addr.add_lit] at hc0 hc1 hc2 hc3 hc4 hc5
      have hlt := lt_of_cell hc0
      exact ⟨x, hw, hbk, rfl, hlt, fun _ => ⟨by simpa using hc0, hc1, ⟨uB, hc2, hB⟩, ⟨uL, hc3, hL⟩, hc4, hc5⟩⟩
    obtain ⟨X, hX⟩ := choose_lt each
    refine ⟨(List.range len).map X, ⟨some ⟨b, off, spot⟩, cap, by simp, by simpa using hl, hm, fun hn => ?_⟩, ?_, ?_⟩
    · simp at hn
      obtain ⟨_, _, hs0, hb0, _⟩ := hX 0 hn
      subst hs0
      refine ⟨b, off, rfl, hb0, fun i x hi => ?_⟩
      have hj : i < len := by
        rcases Nat.lt_or_ge i len with h1 | h1
        · exact h1
        · rw [List.getElem?_eq_none (by simpa using h1)] at hi; cases hi
      rw [List.getElem?_map, List.getElem?_range hj] at hi
      have e := Option.some.inj hi
      rw [← e]
      exact (hX i hj).2.2.2.2 rfl
    · intro x hx2
      obtain ⟨i, hi, rfl⟩ := List.mem_map.1 hx2
      exact (hX i (List.mem_range.1 hi)).1
    · have hxd : d = .slice ((List.range len).map D) ((List.range (m - len)).map fun j => D (len + j)) := by injection hx
      rw [hxd, List.map_map]
      have hb := bulk_sum (H := H) D (fun i => (X i).B.length + (X i).L.length) len (fun i hi => (hX i hi).2.1)
      simp only [Rows.uptoBulk, List.length_map, List.length_range]
      have he : ((fun x : It => x.B.length + x.L.length) ∘ X) = (fun i => (X i).B.length + (X i).L.length) := rfl
      rw [he]
      omega
end
end Go.Proofs.YtgcgehdbgegfeaaDoor
