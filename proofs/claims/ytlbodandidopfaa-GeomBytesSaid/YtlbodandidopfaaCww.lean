/- Contracts of package codec: Writer, for numbers alone. Conditions: the rows are shorter than 2^30. Made out of XCdw: not beside it. -/
import Derived.Test.YtlbodandidopfaaPv
import Derived.Test.YtlbodandidopfaaInm
import Derived.Deep.RegionLaw
import Derived.Lib.SmallJoins
namespace Go.Proofs.Ytlbodandidopfaa
open Go.ChangeShapes Go.WideShapes Go.ChangeAt Go.RowKit
set_option linter.unusedSimpArgs false
set_option linter.unusedVariables false
theorem own_below {w w' : World} {base : Nat} {e : TypeId} {v : Value} {n : Nat} {xs : List Value} (h : w.ownsRow base e 1 v n xs) (hb : Below w.heap.size w w') : w'.ownsRow base e 1 v n xs := by
  refine ⟨h.1, ?_⟩
  rcases h.2 with h0 | ⟨g, cap, cur, hv, hg, hh, r⟩
  · exact Or.inl h0
  · have hlt : g < w.heap.size := by
      rcases Nat.lt_or_ge g w.heap.size with h1 | h1
      · exact h1
      · rw [Array.getElem?_eq_none h1] at hh; cases hh
    exact Or.inr ⟨g, cap, cur, hv, hg, (hb.block g hlt).trans hh, r⟩
theorem step_if {c : Prop} [Decidable c] {A E : Prop} (hc : c) (h : A) : if c then A else E := by rw [if_pos hc]; exact h
def WBox (w : World) (k : Nat) (v : Value) : Prop := w.heap[k]? = some (.cells #[v] 127 (0, 0))
theorem WBox.lt {w : World} {k : Nat} {v : Value} (h : WBox w k v) : k < w.heap.size := by
  rcases Nat.lt_or_ge k w.heap.size with h1 | h1
  · exact h1
  · unfold WBox at h; rw [Array.getElem?_eq_none h1] at h; cases h
theorem WBox.next {w w' : World} {k : Nat} {v : Value} (h : WBox w k v) (hb : Below w.heap.size w w') : WBox w' k v := (hb.block k h.lt).trans h
theorem WBox.cell {w : World} {k : Nat} {v : Value} (h : WBox w k v) : w.cell? ⟨k, 0, none⟩ = some v := cell_of_row w k 0 _ _ (0, 0) h
theorem WBox.free {w : World} {k : Nat} {v : Value} (h : WBox w k v) : w.frozen? ⟨k, 0, none⟩ = false := frozen_of_row w k 0 _ _ h
theorem WBox.set {w : World} {k : Nat} {v : Value} (h : WBox w k v) (u : Value) : WBox (w.setCell ⟨k, 0, none⟩ u) k u := by
  have h0 : w.heap[k]? = some (.cells #[v] 127 (0, 0)) := h
  have h1 := heap_setCell_same w k 0 _ _ u h0
  exact h1
theorem WBox.grown {w w' : World} {k : Nat} {v : Value} {row : Option Nat} (h : WBox w k v) (hg : w.grownBy w' row) (hne : some k ≠ row) : WBox w' k v := (hg.block k h.lt hne).trans h
/-- a writer in k that has laid l; the block that it owns is one of O -/
def Wr (B : Nat) (O : Nat → Prop) (w : World) (k : Nat) (l : List UInt8) : Prop := ∃ v, B ≤ k ∧ WBox w k v ∧ w.ownsRow B 5 1 v l.length (bv l) ∧ v.ownBlock ≠ some k ∧ ∀ g, v.ownBlock = some g → O g
/-- blocks that are not k and none of O are as they were -/
def Kept (O : Nat → Prop) (k : Nat) (w w' : World) : Prop := ∀ j, j < w.heap.size → j ≠ k → ¬ O j → w'.heap[j]? = w.heap[j]?
theorem Wr.next {B : Nat} {O : Nat → Prop} {w w' : World} {k : Nat} {l : List UInt8} (h : Wr B O w k l) (hb : Below w.heap.size w w') : Wr B O w' k l := by
  obtain ⟨v, h1, h2, h3, h4, h5⟩ := h
  exact ⟨v, h1, h2.next hb, own_below h3 hb, h4, h5⟩
theorem Wr.low {B : Nat} {O : Nat → Prop} {w : World} {k : Nat} {l : List UInt8} (h : Wr B O w k l) : Wr B (fun g => g < w.heap.size) w k l := by
  obtain ⟨v, h1, h2, h3, h4, h5⟩ := h
  exact ⟨v, h1, h2, h3, h4, fun g hg => (h3.lt g hg).2⟩
theorem Wr.lt {B : Nat} {O : Nat → Prop} {w : World} {k : Nat} {l : List UInt8} (h : Wr B O w k l) : B ≤ k ∧ k < w.heap.size := by
  obtain ⟨v, h1, h2, h3, h4, h5⟩ := h
  exact ⟨h1, h2.lt⟩
theorem own_set {B : Nat} {w : World} {e : TypeId} {v : Value} {n : Nat} {xs : List Value} (h : w.ownsRow B e 1 v n xs) (k i : Nat) (hne : v.ownBlock ≠ some k) (u : Value) : (w.setCell ⟨k, i, none⟩ u).ownsRow B e 1 v n xs := by
  refine ⟨h.1, ?_⟩
  rcases h.2 with h0 | ⟨g, cap, cur, hv, hg, hh, r⟩
  · exact Or.inl h0
  · have hgk : g ≠ k := fun hgk => hne (by rw [hv, hgk]; rfl)
    exact Or.inr ⟨g, cap, cur, hv, hg, (heap_setCell_other w ⟨k, i, none⟩ g u hgk).trans hh, r⟩
/-- what a writer's call does -/
def WrP (B : Nat) (O : Nat → Prop) (w : World) (k : Nat) (l : List UInt8) (e : Ending) (w' : World) : Prop := e = .returned (.pointer (some ⟨k, 0, none⟩)) ∧ Wr B (fun g => O g ∨ w.heap.size ≤ g) w' k l ∧ Below B w w' ∧ Kept O k w w'
set_option maxRecDepth 100000 in
set_option maxHeartbeats 4000000 in
theorem wint_any (w : World) (B : Nat) (O : Nat → Prop) (k : Nat) (l : List UInt8) (z : Int) (z0 : -9223372036854775808 ≤ z) (z1 : z ≤ 9223372036854775807) (h : Wr B O w k l) (hl : l.length < 1073741824) :
    Calls Try.prog 75 #[.pointer (some ⟨k, 0, none⟩), .int .i64 z] w (WrP B O w k (l ++ Pu.varL (Pu.zig z).toNat)) := by
  obtain ⟨v, hBk, hx, ho, hne, hown⟩ := h
  have hlt := hx.lt
  have HT := Lib.hid hown
  clear hown
  have zl := Pu.zig_lo z
  have zh := Pu.zig_hi z z0 z1
  have hz := fun w1 => zig_any z z0 z1 w1
  obtain ⟨u, hu⟩ := Int.eq_ofNat_of_zero_le zl
  rw [hu] at hz zh ⊢
  rw [Int.toNat_natCast]
  have hv := fun w1 => var_any (.slice none 0 0) [] u (by omega) (by decide) w1 0 (Nat.zero_le _) (RdV.nil_ _ _)
  simp only [List.nil_append] at hv
  have hvl : (Pu.varL u).length ≤ 10 := Pu.varL_length u
  have hvp : 0 < (Pu.varL u).length := by unfold Pu.varL Pu.varF; split <;> simp
  have d1 := hx.cell
  have d2 : w.drew.cell? ⟨k, 0, none⟩ = some v := d1
  have HV := Lib.hid hv
  have HZ := Lib.hid hz
  have HX := Lib.hid hx
  have HO := Lib.hid ho
  have HNE := Lib.hid hne
  have hb0 : B ≤ w.heap.size := by omega
  clear hu hv hz hx ho hne zl
  go_enter Try.func75, Try.ntmps75
  go_wp2
  go_region_law (first
    | (refine step_if (by rfl) ?_; go_simp; go_at_call 92; refine Calls.mono (HZ.out _) ?_; rintro e w1 ⟨rfl, rfl⟩)
    | (refine step_if (by rfl) ?_; go_simp; go_at_call 91; refine Calls.mono (HV.out _) ?_; rintro e w2 ⟨r2, rfl, hr2, hb2'⟩; have hb2 : Below w.heap.size w w2 := ((Below.refl _ w).drew).trans hb2'; have hx2 : WBox w2 k v := HX.out.next hb2; have d3 := hx2.cell; have ho2 : w2.ownsRow B 5 1 v l.length (bv l) := own_below HO.out hb2; have hB2 : Below B w w2 := hb2.mono hb0; have hs2 := hB2.size)
    | (refine step_append_rd _ rfl (.tmp 9) (.tmp 12) 36 (by rfl) B 5 (.int .u8 0) 1 Try.underlying36 Try.inf5 rfl v _ _ (by rfl) ho2 _ (by rfl) _ _ hr2 (bv_one _) (by rw [bv_length]; omega) (by omega) (by omega) ?_; intro v3 w3 ho3 hg3 hv3; obtain ⟨g3, cap3, rfl⟩ := Joins.ownsRow_form ho3 (by rw [bv_length]; omega); have hx3 : WBox w3 k v := hx2.grown hg3 (fun e => HNE.out e.symm); have d4 := hx3.cell; have f4 := hx3.free; have hB3 : Below B w w3 := hB2.grown hg3 (by omega) (fun g hg => (ho2.lt g hg).1))
    | fail)
  all_goals go_wp2
  all_goals go_ret
  all_goals
    have hne3 : (Value.slice (some ⟨g3, 0, none⟩) (l.length + (bv (Pu.varL u)).length) cap3).ownBlock ≠ some k := by
      intro e
      rcases hv3 with h | h
      · rw [h] at e; exact HNE.out e
      · rw [h] at e; have := hx2.lt; injection e with e; omega
    have hO : w3.ownsRow B 5 1 (.slice (some ⟨g3, 0, none⟩) (l.length + (bv (Pu.varL u)).length) cap3) (l ++ Pu.varL u).length (bv (l ++ Pu.varL u)) := by
      rw [List.length_append, bv_append, ← bv_length (Pu.varL u)]; exact ho3
    have hfin : WrP B O w k (l ++ Pu.varL u) (.returned (.pointer (some ⟨k, 0, none⟩))) (w3.setCell ⟨k, 0, none⟩ (.slice (some ⟨g3, 0, none⟩) (l.length + (bv (Pu.varL u)).length) cap3)) :=
      ⟨rfl, ⟨_, hBk, hx3.set _, own_set hO k 0 hne3 _, hne3, fun g hg => by
        rcases hv3 with h | h
        · rw [h] at hg; exact Or.inl (HT.out g hg)
        · rw [h] at hg; injection hg with hg; have := hb2.size; exact Or.inr (by omega)⟩, Below.setCell (p := ⟨k, 0, none⟩) hB3 hBk _,
        fun j hj1 hj2 hj3 => (heap_setCell_other w3 ⟨k, 0, none⟩ j _ hj2).trans ((hg3.block j (by have := hb2.size; omega) (fun e => hj3 (HT.out j e.symm))).trans (hb2.block j hj1))⟩
    exact hfin
set_option maxRecDepth 100000 in
set_option maxHeartbeats 4000000 in
theorem wnew_any (w : World) : Calls Try.prog 73 #[] w (WrP w.heap.size (fun _ => False) w w.heap.size []) := by
  have hx : WBox (w.alloc (.cells #[.slice none 0 0] 127)) w.heap.size (.slice none 0 0) := heap_alloc_new w _
  have hfin : WrP w.heap.size (fun _ => False) w w.heap.size [] (.returned (.pointer (some ⟨w.heap.size, 0, none⟩))) (w.alloc (.cells #[.slice none 0 0] 127)) :=
    ⟨rfl, ⟨_, Nat.le_refl _, hx, ⟨by simp [bv], Or.inl ⟨rfl, rfl⟩⟩, by simp [Value.ownBlock], fun g hg => by simp [Value.ownBlock] at hg⟩, (Below.refl _ _).alloc (Nat.le_refl _) _, fun j hj _ _ => Below.heap_alloc _ _ _ hj⟩
  have HF := Lib.hid hfin
  clear hfin hx
  go_enter Try.func73, Try.ntmps73
  go_wp2
  go_ret
  exact HF.out
set_option maxRecDepth 100000 in
set_option maxHeartbeats 4000000 in
theorem wdone_any (w : World) (B : Nat) (O : Nat → Prop) (k : Nat) (l : List UInt8) (h : Wr B O w k l) (hl : l.length < 1073741824) : Calls Try.prog 76 #[.pointer (some ⟨k, 0, none⟩)] w (TellsB w l) := by
  obtain ⟨v, hBk, hx, ho, hne, _⟩ := h
  have d1 := hx.cell
  have R1 := Lib.hid (RdV.own ho)
  have hnil : w.ownsRow w.heap.size 5 1 (.slice none 0 0) 0 [] := ⟨by simp, Or.inl ⟨rfl, rfl⟩⟩
  have HO := Lib.hid hnil
  clear hx ho hne hnil
  go_enter Try.func76, Try.ntmps76
  go_wp2_with (at_builtin; refine wpList_append_rd _ rfl _ _ 36 rfl w.heap.size 5 (.int .u8 0) 1 Try.underlying36 Try.inf5 rfl _ 0 _ rfl HO.out _ rfl _ _ R1.out (bv_one _) (by rw [bv_length]; omega) (by omega) (Nat.le_refl _) ?_; intro v3 w3 ho3 hg3 hv3)
  go_ret
  have hR := RdV.own ho3
  rw [List.nil_append] at hR
  exact ⟨_, rfl, hR, (Below.refl _ w).grown hg3 (Nat.le_refl _) (by intro g hg; cases hg)⟩
end Go.Proofs.Ytlbodandidopfaa
