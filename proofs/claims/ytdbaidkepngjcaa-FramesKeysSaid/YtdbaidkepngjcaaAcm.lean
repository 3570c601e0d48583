/- A slice of structs of whole numbers and booleans that came in. Conditions: none of its own. -/
import Derived.Test.YtdbaidkepngjcaaMem
import Derived.Deep.Fields
import Derived.Deep.Slices
namespace Go.Proofs.Ytdbaidkepngjcaa
open Go.ChangeShapes Go.WideShapes Go.ChangeAt Go.RowKit Go.Deep
set_option linter.unusedSimpArgs false
set_option linter.unusedVariables false
section
variable {H : Type} {enc : TypeId × Value → H} {P : Program}
/-- what a cell of a type of one cell may hold -/
def CellOk (P : Program) (T : TypeId) (v : Value) : Prop := (∀ k, P.underlying T = some (.int k) → ∃ z : Int, v = .int k z ∧ (Lit.int k z).wf = true) ∧ (P.underlying T = some .bool → ∃ b : Bool, v = .bool b)
/-- a struct of cells of one each -/
theorem trod_cells {W : World} {t : TypeId} {fs : Array Field} {n : Nat} {cs : List Value} {y : DataW H × List MemPlace} (hs : P.underlying t = some (.struct fs)) (hone : oneCellFields P fs = true) (hC : P.cellsOf t = fs.size)
    (h : DataW.trod enc P W 0 (fun _ => true) true n t cs = some y) : cs.length = fs.size ∧ ∀ (i : Nat) (f : Field) (v : Value), fs[i]? = some f → cs[i]? = some v → CellOk P f.type v := by
  obtain ⟨xs, m, _, _, hl, hlen, hg⟩ := DataW.trod_struct hs h
  rw [hC] at hl
  refine ⟨hl, fun i f v hf hv => ?_⟩
  have hi : i < cs.length := (List.getElem?_eq_some_iff.1 hv).1
  have hcv : cs[i] = v := (List.getElem?_eq_some_iff.1 hv).2
  obtain ⟨o0, k0⟩ := hone_of hone i f hf
  have h1 := hg i f hf
  rw [o0, k0] at h1
  have hone' : (cs.drop i).take 1 = [cs[i]] := by
    rw [List.drop_eq_getElem_cons hi]
    rfl
  rw [hone'] at h1
  have hif : i < fs.size := by omega
  have hxi : i < xs.length := by omega
  rw [List.getElem?_eq_getElem hxi] at h1
  refine ⟨fun k hT => ?_, fun hT => ?_⟩
  · obtain ⟨z, hz1, _, hz2⟩ := DataW.trod_int hT h1
    exact ⟨z, by rw [← hcv]; simpa using hz1, hz2⟩
  · obtain ⟨z, hz1, _⟩ := DataW.trod_bool hT h1
    exact ⟨z, by rw [← hcv]; simpa using hz1⟩
/-- it reads as rows of n cells each -/
def RdC (n : Nat) (w : World) (C : Nat) (v : Value) (l : List (List Value)) : Prop :=
  ∃ A c, v = .slice A l.length c ∧ l.length ≤ c ∧ c ≤ maxLen ∧ (0 < l.length → ∃ b off, A = some ⟨b, off, none⟩ ∧ b < C ∧ ∀ (i : Nat) (x : List Value), l[i]? = some x → x.length = n ∧ ∀ (j : Nat) (z : Value), x[j]? = some z → w.cell? ⟨b, off + i * n + j, none⟩ = some z)
theorem RdC.keep {n C : Nat} {w w' : World} {v : Value} {l : List (List Value)} (h : RdC n w C v l) (hk : ∀ k, k < C → w'.heap[k]? = w.heap[k]?) : RdC n w' C v l := by
  obtain ⟨A, c, e, h1, h2, h3⟩ := h
  refine ⟨A, c, e, h1, h2, fun hn => ?_⟩
  obtain ⟨b, off, e2, hb, hc⟩ := h3 hn
  exact ⟨b, off, e2, hb, fun i x hx => ⟨(hc i x hx).1, fun j z hz => (World.cell?_of_block (a := ⟨b, off + i * n + j, none⟩) (hk b hb)).trans ((hc i x hx).2 j z hz)⟩⟩
theorem RdC.below {n C : Nat} {w w' : World} {v : Value} {l : List (List Value)} (h : RdC n w C v l) (hb : Below C w w') : RdC n w' C v l := h.keep hb.block
theorem RdC.get {n C : Nat} {w : World} {A : Option Addr} {m c : Nat} {l : List (List Value)} (h : RdC n w C (.slice A m c) l) {i : Nat} {x : List Value} (hx : l[i]? = some x) :
    ∃ b off, A = some ⟨b, off, none⟩ ∧ b < C ∧ x.length = n ∧ ∀ (j : Nat) (z : Value), x[j]? = some z → w.cell? ⟨b, off + i * n + j, none⟩ = some z := by
  obtain ⟨A', c', e, h1, h2, h3⟩ := h
  injection e with e1 e2 e3
  subst e1
  obtain ⟨b, off, e4, hb, hc⟩ := h3 (by rcases Nat.lt_or_ge i l.length with h | h; omega; (rw [List.getElem?_eq_none h] at hx; cases hx))
  exact ⟨b, off, e4, hb, (hc i x hx).1, (hc i x hx).2⟩
theorem open_cells {W : World} {base : Nat} {t e : TypeId} {fs : Array Field} {v : Value} {d : DataW H} {p : List MemPlace} (ht : P.underlying t = some (.slice e)) (hs : P.underlying e = some (.struct fs)) (hone : oneCellFields P fs = true) (hC : P.cellsOf e = fs.size) (h0 : 0 < fs.size)
    (hval : Value.okWide P W .any base t v) (h : DataW.Trod enc P W 0 (fun _ => true) true t v d p) : ∃ l : List (List Value), RdC fs.size W W.heap.size v l ∧ ∀ x ∈ l, x.length = fs.size ∧ ∀ (i : Nat) (f : Field) (v : Value), fs[i]? = some f → x[i]? = some v → CellOk P f.type v := by
  obtain ⟨a0, len, cap, rfl⟩ := okWide_slice ht hval
  obtain ⟨fuel, hf⟩ := h
  rcases open_slice ht hf with ⟨hcs, _⟩ | ⟨a, len', cap', m, n, D, Pl, hcs, _, hl, hm, hmm, hx, hcell⟩
  · simp [Value.cells] at hcs
    obtain ⟨rfl, rfl, rfl⟩ := hcs
    exact ⟨[], ⟨none, 0, rfl, by simp, by unfold maxLen; omega, fun h => by simp at h⟩, by simp⟩
  · simp [Value.cells] at hcs
    obtain ⟨rfl, rfl, rfl⟩ := hcs
    simp only [if_true] at hmm
    rw [hC] at hcell
    obtain ⟨b, off, spot⟩ := a
    have hspot0 : 0 < len → spot = none := fun h0' => by
      obtain ⟨cs, h1, _⟩ := hcell 0 (by omega)
      obtain ⟨_, hln, hc⟩ := World.cells?_some h1
      have hc0 := (hc 0 (by omega)).trans (List.getElem?_eq_getElem (by omega))
      simpa [Addr.add] using World.cell?_spot hc0
    have each : ∀ i, i < len → ∃ x : List Value, (x.length = fs.size ∧ ∀ (i : Nat) (f : Field) (v : Value), fs[i]? = some f → x[i]? = some v → CellOk P f.type v) ∧ spot = none ∧ b < W.heap.size ∧ (spot = none → ∀ (j : Nat) (z : Value), x[j]? = some z → W.cell? ⟨b, off + i * fs.size + j, none⟩ = some z) := by
      intro i hi
      obtain ⟨cs, h1, h2⟩ := hcell i (by omega)
      obtain ⟨hzl, hzw⟩ := trod_cells hs hone hC h2
      obtain ⟨_, _, hc⟩ := World.cells?_some h1
      have hspot : spot = none := hspot0 (by omega)
      subst hspot
      simp only [Addr.add_lit] at hc
      have hlt : b < W.heap.size := by
        have := (hc 0 h0).trans (List.getElem?_eq_getElem (by omega))
        exact lt_of_cell this
      refine ⟨cs, ⟨hzl, hzw⟩, rfl, hlt, fun _ j z hz => ?_⟩
      have hj : j < cs.length := (List.getElem?_eq_some_iff.1 hz).1
      have := hc j (by omega)
      rw [this, hz]
    obtain ⟨X, hX⟩ := choose_lt each
    refine ⟨(List.range len).map X, ⟨some ⟨b, off, spot⟩, cap, by simp, by simpa using hl, hm, fun hn => ?_⟩, ?_⟩
    · simp at hn
      obtain ⟨_, hs0, hb0, _⟩ := hX 0 hn
      subst hs0
      refine ⟨b, off, rfl, hb0, fun i x hi => ?_⟩
      have hj : i < len := by
        rcases Nat.lt_or_ge i len with h1 | h1
        · exact h1
        · rw [List.getElem?_eq_none (by simpa using h1)] at hi; cases hi
      rw [List.getElem?_map, List.getElem?_range hj] at hi
      have e := Option.some.inj hi
      rw [← e]
      exact ⟨(hX i hj).1.1, (hX i hj).2.2.2 rfl⟩
    · intro x hx2
      obtain ⟨i, hi, rfl⟩ := List.mem_map.1 hx2
      exact (hX i (List.mem_range.1 hi)).1
end
end Go.Proofs.Ytdbaidkepngjcaa
