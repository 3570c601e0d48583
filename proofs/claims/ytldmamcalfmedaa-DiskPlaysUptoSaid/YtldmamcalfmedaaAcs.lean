/- A slice of a play's acts (structs of seven fields, two of them slices) that came in. Conditions: none of its own. -/
import Derived.Test.YtldmamcalfmedaaTrd
import Derived.Test.YtldmamcalfmedaaOpc
namespace Go.Proofs.Ytldmamcalfmedaa
open Go.ChangeShapes Go.WideShapes Go.ChangeAt Go.RowKit Go.Deep
set_option linter.unusedSimpArgs false
set_option linter.unusedVariables false
structure Ac where
  op : Int
  sec : Int
  fill : Int
  B : List UInt8
  n : Int
  K : List Bool
  pat : Int
  deriving Inhabited
def Ac.wf (x : Ac) : Prop := I64 x.op ∧ I64 x.sec ∧ (0 ≤ x.fill ∧ x.fill ≤ 255) ∧ I64 x.n ∧ (0 ≤ x.pat ∧ x.pat ≤ 4294967295)
def AcAt (w : World) (C b o : Nat) (x : Ac) (uB uK : Value) : Prop :=
  w.cell? ⟨b, o, none⟩ = some (.int .i64 x.op) ∧ w.cell? ⟨b, o + 1, none⟩ = some (.int .i64 x.sec) ∧ w.cell? ⟨b, o + 2, none⟩ = some (.int .u8 x.fill) ∧ w.cell? ⟨b, o + 3, none⟩ = some uB ∧ w.cell? ⟨b, o + 4, none⟩ = some (.int .i64 x.n) ∧ w.cell? ⟨b, o + 5, none⟩ = some uK ∧ w.cell? ⟨b, o + 6, none⟩ = some (.int .u32 x.pat) ∧ RdV w C uB (bv x.B) ∧ RdV w C uK (boolV x.K)
def RdAc (w : World) (C : Nat) (v : Value) (xs : List Ac) : Prop :=
  ∃ A c, v = .slice A xs.length c ∧ xs.length ≤ c ∧ c ≤ maxLen ∧ (0 < xs.length → ∃ b off, A = some ⟨b, off, none⟩ ∧ b < C ∧ ∀ (i : Nat) (x : Ac), xs[i]? = some x → ∃ uB uK, AcAt w C b (off + i * 7) x uB uK)
theorem RdAc.below {w w' : World} {C : Nat} {v : Value} {xs : List Ac} (h : RdAc w C v xs) (hb : Below C w w') : RdAc w' C v xs := by
  obtain ⟨A, c, e, h1, h2, h3⟩ := h
  refine ⟨A, c, e, h1, h2, fun hn => ?_⟩
  obtain ⟨b, off, e1, hbc, hx⟩ := h3 hn
  refine ⟨b, off, e1, hbc, fun i x hi => ?_⟩
  obtain ⟨uB, uK, g0, g1, g2, g3, g4, g5, g6, rB, rK⟩ := hx i x hi
  have hk : ∀ o, w'.cell? ⟨b, o, none⟩ = w.cell? ⟨b, o, none⟩ := fun o => World.cell?_of_block (a := ⟨b, o, none⟩) (hb.block b hbc)
  exact ⟨uB, uK, (hk _).trans g0, (hk _).trans g1, (hk _).trans g2, (hk _).trans g3, (hk _).trans g4, (hk _).trans g5, (hk _).trans g6, rB.below hb, rK.below hb⟩
theorem RdAc.get {w : World} {C : Nat} {A : Option Addr} {n c : Nat} {xs : List Ac} (h : RdAc w C (.slice A n c) xs) {i : Nat} {x : Ac} (hx : xs[i]? = some x) : ∃ b off uB uK, A = some ⟨b, off, none⟩ ∧ b < C ∧ AcAt w C b (off + i * 7) x uB uK := by
  obtain ⟨A', c', e, h1, h2, h3⟩ := h
  injection e with e1 e2 e3
  subst e1
  have hi : i < xs.length := by
    rcases Nat.lt_or_ge i xs.length with h | h
    · exact h
    · rw [List.getElem?_eq_none h] at hx; cases hx
  obtain ⟨b, off, e4, hb, hc⟩ := h3 (by omega)
  obtain ⟨uB, uK, hA⟩ := hc i x hx
  exact ⟨b, off, uB, uK, e4, hb, hA⟩
section
variable {H : Type} {enc : TypeId × Value → H} {P : Program}
theorem trod_bools {W : World} {t e : TypeId} {n : Nat} {v : Value} {y : DataW H × List MemPlace} (ht : P.underlying t = some (.slice e)) (he : P.underlying e = some .bool) (hc : P.cellsOf e = 1)
    (hf : DataW.trod enc P W 0 (fun _ => true) true n t [v] = some y) : ∃ bs : List Bool, RdV W W.heap.size v (boolV bs) ∧ bs.length ≤ Rows.uptoBulk y.1 := by
  rcases Go.Deep.open_bools ht he hc hf with ⟨hcs, _⟩ | ⟨a, len', cap', B, hcs, _, hl, hm, hy, hcell⟩
  · injection hcs with hcs _
    subst hcs
    exact ⟨[], RdV.nil_ _ _, by simp⟩
  · injection hcs with hcs _
    subst hcs
    have hlen : (boolV ((List.range len').map B)).length = len' := by rw [boolV_length, List.length_map, List.length_range]
    refine ⟨(List.range len').map B, ⟨some a, cap', ?_, ?_, hm, fun hn => ?_⟩, ?_⟩
    · rw [hlen]
    · rw [hlen]; exact hl
    · rw [hlen] at hn
      obtain ⟨b, off, spot⟩ := a
      have hspot : spot = none := by simpa [Addr.add] using World.cell?_spot (hcell 0 (by omega))
      subst hspot
      refine ⟨b, off, rfl, ?_, fun j u hu => ?_⟩
      · have := lt_of_cell (hcell 0 (by omega))
        rw [Addr.add_lit] at this
        exact this
      · have hj : j < len' := by
          rcases Nat.lt_or_ge j len' with h1 | h1
          · exact h1
          · rw [List.getElem?_eq_none (by rw [hlen]; exact h1)] at hu
            cases hu
        rw [← Addr.add_lit, hcell j (by omega), ← hu]
        simp [boolV, hj]
    · rw [hy]
      have hb : ∀ n : Nat, Rows.uptoBulkAll ((List.range n).map fun i => (.lit (.bool (B i)) : DataW H)) = n := by
        intro n
        have : ∀ l : List Nat, Rows.uptoBulkAll (l.map fun i => (.lit (.bool (B i)) : DataW H)) = l.length := by
          intro l
          induction l with
          | nil => rfl
          | cons x l ih => simp only [List.map_cons, Rows.uptoBulkAll, Rows.uptoBulk, ih, List.length_cons]; omega
        rw [this, List.length_range]
      have := hb len'
      simp only [Go.Deep.boolRow, Rows.uptoBulk, List.length_map, List.length_range] at this ⊢
      omega
/-- one act, from its seven cells -/
theorem trod_act {W : World} {t eB eK : TypeId} {f0 f1 f2 f3 f4 f5 f6 : Field} {n : Nat} {cs : List Value} {y : DataW H × List MemPlace} (hs : P.underlying t = some (.struct #[f0, f1, f2, f3, f4, f5, f6])) (hC : P.cellsOf t = 7)
    (ho : f0.offset = 0 ∧ f1.offset = 1 ∧ f2.offset = 2 ∧ f3.offset = 3 ∧ f4.offset = 4 ∧ f5.offset = 5 ∧ f6.offset = 6)
    (hc : P.cellsOf f0.type = 1 ∧ P.cellsOf f1.type = 1 ∧ P.cellsOf f2.type = 1 ∧ P.cellsOf f3.type = 1 ∧ P.cellsOf f4.type = 1 ∧ P.cellsOf f5.type = 1 ∧ P.cellsOf f6.type = 1)
    (u0 : P.underlying f0.type = some (.int .i64)) (u1 : P.underlying f1.type = some (.int .i64)) (u2 : P.underlying f2.type = some (.int .u8)) (u3 : P.underlying f3.type = some (.slice eB)) (u4 : P.underlying f4.type = some (.int .i64)) (u5 : P.underlying f5.type = some (.slice eK)) (u6 : P.underlying f6.type = some (.int .u32))
    (b3 : P.underlying eB = some (.int .u8)) (b5 : P.underlying eK = some .bool) (d3 : P.cellsOf eB = 1) (d5 : P.cellsOf eK = 1)
    (h : DataW.trod enc P W 0 (fun _ => true) true n t cs = some y) :
    ∃ (x : Ac) (uB uK : Value), cs = [.int .i64 x.op, .int .i64 x.sec, .int .u8 x.fill, uB, .int .i64 x.n, uK, .int .u32 x.pat] ∧ x.wf ∧ RdV W W.heap.size uB (bv x.B) ∧ RdV W W.heap.size uK (boolV x.K) ∧ x.B.length + x.K.length + 1 ≤ Rows.uptoBulk y.1 := by
  obtain ⟨o0, o1, o2, o3, o4, o5, o6⟩ := ho
  obtain ⟨c0, c1, c2, c3, c4, c5, c6⟩ := hc
  obtain ⟨xs, m, _, rfl, hl, hlen, hf⟩ := DataW.trod_struct hs h
  rw [hC] at hl
  match xs, hlen, cs, hl with
  | [y0, y1, y2, y3, y4, y5, y6], _, [v0, v1, v2, v3, v4, v5, v6], _ =>
    have g0 := hf 0 f0 rfl
    have g1 := hf 1 f1 rfl
    have g2 := hf 2 f2 rfl
    have g3 := hf 3 f3 rfl
    have g4 := hf 4 f4 rfl
    have g5 := hf 5 f5 rfl
    have g6 := hf 6 f6 rfl
    simp [o0, o1, o2, o3, o4, o5, o6, c0, c1, c2, c3, c4, c5, c6] at g0 g1 g2 g3 g4 g5 g6
    obtain ⟨z0, e0, w0, k0⟩ := trod_i64 u0 g0
    obtain ⟨z1, e1, w1, k1⟩ := trod_i64 u1 g1
    obtain ⟨z2, e2, _, w2⟩ := DataW.trod_int u2 g2
    obtain ⟨l3, r3, k3⟩ := trod_bytes u3 b3 d3 g3
    obtain ⟨z4, e4, w4, k4⟩ := trod_i64 u4 g4
    obtain ⟨l5, r5, k5⟩ := trod_bools u5 b5 d5 g5
    obtain ⟨z6, e6, _, w6⟩ := DataW.trod_int u6 g6
    injection e0 with e0 _
    injection e1 with e1 _
    injection e2 with e2 _
    injection e4 with e4 _
    injection e6 with e6 _
    subst e0 e1 e2 e4 e6
    refine ⟨⟨z0, z1, z2, l3, z4, l5, z6⟩, v3, v5, rfl, ⟨w0, w1, ?_, w4, ?_⟩, r3, r5, ?_⟩
    · simpa [Lit.wf, IntKind.min, IntKind.max, IntKind.signed, IntKind.bits] using w2
    · simpa [Lit.wf, IntKind.min, IntKind.max, IntKind.signed, IntKind.bits] using w6
    · simp only [List.map_cons, List.map_nil, Rows.uptoBulk, Rows.uptoBulkAll]
      omega
theorem open_dacts {W : World} {base : Nat} {t e eB eK : TypeId} {v : Value} {d : DataW H} {p : List MemPlace} {f0 f1 f2 f3 f4 f5 f6 : Field} (ht : P.underlying t = some (.slice e)) (hs : P.underlying e = some (.struct #[f0, f1, f2, f3, f4, f5, f6])) (hC : P.cellsOf e = 7)
    (ho : f0.offset = 0 ∧ f1.offset = 1 ∧ f2.offset = 2 ∧ f3.offset = 3 ∧ f4.offset = 4 ∧ f5.offset = 5 ∧ f6.offset = 6)
    (hc : P.cellsOf f0.type = 1 ∧ P.cellsOf f1.type = 1 ∧ P.cellsOf f2.type = 1 ∧ P.cellsOf f3.type = 1 ∧ P.cellsOf f4.type = 1 ∧ P.cellsOf f5.type = 1 ∧ P.cellsOf f6.type = 1)
    (u0 : P.underlying f0.type = some (.int .i64)) (u1 : P.underlying f1.type = some (.int .i64)) (u2 : P.underlying f2.type = some (.int .u8)) (u3 : P.underlying f3.type = some (.slice eB)) (u4 : P.underlying f4.type = some (.int .i64)) (u5 : P.underlying f5.type = some (.slice eK)) (u6 : P.underlying f6.type = some (.int .u32))
    (b3 : P.underlying eB = some (.int .u8)) (b5 : P.underlying eK = some .bool) (d3 : P.cellsOf eB = 1) (d5 : P.cellsOf eK = 1)
    (hval : Value.okWide P W .any base t v) (h : DataW.Trod enc P W 0 (fun _ => true) true t v d p) : ∃ xs : List Ac, RdAc W W.heap.size v xs ∧ (∀ x ∈ xs, x.wf) ∧ (xs.map (fun x => x.B.length + x.K.length)).sum + xs.length ≤ Rows.uptoBulk d := by
  obtain ⟨a0, len, cap, rfl⟩ := okWide_slice ht hval
  obtain ⟨fuel, hf⟩ := h
  rcases open_slice ht hf with ⟨hcs, _⟩ | ⟨a, len', cap', m, n, D, Pl, hcs, _, hl, hm, hmm, hx, hcell⟩
  · simp [Value.cells] at hcs
    obtain ⟨rfl, rfl, rfl⟩ := hcs
    exact ⟨[], ⟨none, 0, rfl, by simp, by unfold maxLen; omega, fun h => by simp at h⟩, by simp, by simp⟩
  · simp [Value.cells] at hcs
    obtain ⟨rfl, rfl, rfl⟩ := hcs
    simp only [if_true] at hmm
    rw [hC] at hcell
    obtain ⟨b, off, spot⟩ := a
    have hspot0 : 0 < len → spot = none := fun h0 => by
      obtain ⟨cs, h1, _⟩ := hcell 0 (by omega)
      obtain ⟨_, hln, hc⟩ := World.cells?_some h1
      have hc0 := (hc 0 (by omega)).trans (List.getElem?_eq_getElem (by omega))
      simpa [Addr.add] using World.cell?_spot hc0
    have each : ∀ i, i < len → ∃ x : Ac, x.wf ∧ x.B.length + x.K.length + 1 ≤ Rows.uptoBulk (D i) ∧ spot = none ∧ b < W.heap.size ∧ (spot = none → ∃ uB uK, AcAt W W.heap.size b (off + i * 7) x uB uK) := by
      intro i hi
      obtain ⟨cs, h1, h2⟩ := hcell i (by omega)
      obtain ⟨x, uB, uK, rfl, hw, hB, hK, hbk⟩ := trod_act hs hC ho hc u0 u1 u2 u3 u4 u5 u6 b3 b5 d3 d5 h2
      obtain ⟨_, _, hc⟩ := World.cells?_some h1
      have hc0 := hc 0 (by omega)
      have hc1 := hc 1 (by omega)
      have hc2 := hc 2 (by omega)
      have hc3 := hc 3 (by omega)
      have hc4 := hc 4 (by omega)
      have hc5 := hc 5 (by omega)
      have hc6 := hc 6 (by omega)
      simp at hc0 hc1 hc2 hc3 hc4 hc5 hc6
      have hspot : spot = none := hspot0 (by omega)
      subst hspot
      simp only [Addr.add_lit] at hc0 hc1 hc2 hc3 hc4 hc5 hc6
      have hlt := lt_of_cell hc0
      exact ⟨x, hw, hbk, rfl, hlt, fun _ => ⟨uB, uK, by simpa using hc0, hc1, hc2, hc3, hc4, hc5, hc6, hB, hK⟩⟩
    obtain ⟨X, hX⟩ := choose_lt each
    refine ⟨(List.range len).map X, ⟨some ⟨b, off, spot⟩, cap, by simp, by simpa using hl, hm, fun hn => ?_⟩, ?_, ?_⟩
    · simp at hn
      obtain ⟨_, _, hs0, hb0, _⟩ := hX 0 hn
      subst hs0
      refine ⟨b, off, rfl, hb0, fun i x hi => ?_⟩
      have hj : i < len := by
        rcases Nat.lt_or_ge i len with h1 | h1
        · exact h1
        · rw [List.getElem?_eq_none (by simpa using h1)] at hi; cases hi
      rw [List.getElem?_map, List.getElem?_range hj] at hi
      have e := Option.some.inj hi
      rw [← e]
      exact (hX i hj).2.2.2.2 rfl
    · intro x hx2
      obtain ⟨i, hi, rfl⟩ := List.mem_map.1 hx2
      exact (hX i (List.mem_range.1 hi)).1
    · have hxd : d = .slice ((List.range len).map D) ((List.range (m - len)).map fun j => D (len + j)) := by injection hx
      rw [hxd, List.map_map]
      have hb := bulk_sum (H := H) D (fun i => (X i).B.length + (X i).K.length) len (fun i hi => (hX i hi).2.1)
      simp only [Rows.uptoBulk, List.length_map, List.length_range]
      have he : ((fun x : Ac => x.B.length + x.K.length) ∘ X) = (fun i => (X i).B.length + (X i).K.length) := rfl
      rw [he]
      omega
end
end Go.Proofs.Ytldmamcalfmedaa
