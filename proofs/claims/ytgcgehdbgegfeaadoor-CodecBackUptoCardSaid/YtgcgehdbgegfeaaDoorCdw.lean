/- Contracts of package codec: Writer; the third chapter's example. Conditions: the rows are shorter than 2^30. -/
import Derived.Test.YtgcgehdbgegfeaaDoorCdc
import Derived.Test.YtgcgehdbgegfeaaDoorPv
import Derived.Deep.RegionLaw
namespace Go.Proofs.YtgcgehdbgegfeaaDoor
open Go.ChangeShapes Go.WideShapes Go.ChangeAt Go.RowKit
set_option linter.unusedSimpArgs false
set_option linter.unusedVariables false
theorem step_if {c : Prop} [Decidable c] {A E : Prop} (hc : c) (h : A) : if c then A else E := by rw [if_pos hc]; exact h
def WBox (w : World) (k : Nat) (v : Value) : Prop := w.heap[k]? = some (.cells #[v] 88 (0, 0))
theorem WBox.lt {w : World} {k : Nat} {v : Value} (h : WBox w k v) : k < w.heap.size := by
  rcases Nat.lt_or_ge k w.heap.size with h1 | h1
  · exact h1
  · unfold WBox at h; rw [Array.getElem?_eq_none h1] at h; cases h
theorem WBox.next {w w' : World} {k : Nat} {v : Value} (h : WBox w k v) (hb : Below w.heap.size w w') : WBox w' k v := (hb.block k h.lt).trans h
theorem WBox.cell {w : World} {k : Nat} {v : Value} (h : WBox w k v) : w.cell? ⟨k, 0, none⟩ = some v := cell_of_row w k 0 _ _ (0, 0) h
theorem WBox.free {w : World} {k : Nat} {v : Value} (h : WBox w k v) : w.frozen? ⟨k, 0, none⟩ = false := frozen_of_row w k 0 _ _ h
theorem WBox.set {w : World} {k : Nat} {v : Value} (h : WBox w k v) (u : Value) : WBox (w.setCell ⟨k, 0, none⟩ u) k u := by
  have h0 : w.heap[k]? = some (.cells #[v] 88 (0, 0)) := h
  have h1 := heap_setCell_same w k 0 _ _ u h0
  exact h1
theorem WBox.grown {w w' : World} {k : Nat} {v : Value} {row : Option Nat} (h : WBox w k v) (hg : w.grownBy w' row) (hne : some k ≠ row) : WBox w' k v := (hg.block k h.lt hne).trans h
/-- a writer in k that has laid l; the block that it owns is one of O -/
def Wr (B : Nat) (O : Nat → Prop) (w : World) (k : Nat) (l : List UInt8) : Prop := ∃ v, B ≤ k ∧ WBox w k v ∧ w.ownsRow B 5 1 v l.length (bv l) ∧ v.ownBlock ≠ some k ∧ ∀ g, v.ownBlock = some g → O g
/-- blocks that are not k and none of O are as they were -/
def Kept (O : Nat → Prop) (k : Nat) (w w' : World) : Prop := ∀ j, j < w.heap.size → j ≠ k → ¬ O j → w'.heap[j]? = w.heap[j]?
theorem Wr.next {B : Nat} {O : Nat → Prop} {w w' : World} {k : Nat} {l : List UInt8} (h : Wr B O w k l) (hb : Below w.heap.size w w') : Wr B O w' k l := by
  obtain ⟨v, h1, h2, h3, h4, h5⟩ := h
  exact ⟨v, h1, h2.next hb, own_below h3 hb, h4, h5⟩
theorem Wr.low {B : Nat} {O : Nat → Prop} {w : World} {k : Nat} {l : List UInt8} (h : Wr B O w k l) : Wr B (fun g => g < w.heap.size) w k l := by
  obtain ⟨v, h1, h2, h3, h4, h5⟩ := h
  exact ⟨v, h1, h2, h3, h4, fun g hg => (h3.lt g hg).2⟩
theorem Wr.lt {B : Nat} {O : Nat → Prop} {w : World} {k : Nat} {l : List UInt8} (h : Wr B O w k l) : B ≤ k ∧ k < w.heap.size := by
  obtain ⟨v, h1, h2, h3, h4, h5⟩ := h
  exact ⟨h1, h2.lt⟩
theorem own_set {B : Nat} {w : World} {e : TypeId} {v : Value} {n : Nat} {xs : List Value} (h : w.ownsRow B e 1 v n xs) (k i : Nat) (hne : v.ownBlock ≠ some k) (u : Value) : (w.setCell ⟨k, i, none⟩ u).ownsRow B e 1 v n xs := by
  refine ⟨h.1, ?_⟩
  rcases h.2 with h0 | ⟨g, cap, cur, hv, hg, hh, r⟩
  · exact Or.inl h0
  · have hgk : g ≠ k := fun hgk => hne (by rw [hv, hgk]; rfl)
    exact Or.inr ⟨g, cap, cur, hv, hg, (heap_setCell_other w ⟨k, i, none⟩ g u hgk).trans hh, r⟩
/-- what a writer's call does -/
def WrP (B : Nat) (O : Nat → Prop) (w : World) (k : Nat) (l : List UInt8) (e : Ending) (w' : World) : Prop := e = .returned (.pointer (some ⟨k, 0, none⟩)) ∧ Wr B (fun g => O g ∨ w.heap.size ≤ g) w' k l ∧ Below B w w' ∧ Kept O k w w'
set_option maxRecDepth 100000 in
set_option maxHeartbeats 4000000 in
theorem wint_any (w : World) (B : Nat) (O : Nat → Prop) (k : Nat) (l : List UInt8) (z : Int) (z0 : -9223372036854775808 ≤ z) (z1 : z ≤ 9223372036854775807) (h : Wr B O w k l) (hl : l.length < 1073741824) :
    Calls Tryd.prog 30 #[.pointer (some ⟨k, 0, none⟩), .int .i64 z] w (WrP B O w k (l ++ Pu.varL (Pu.zig z).toNat)) := by
  obtain ⟨v, hBk, hx, ho, hne, hown⟩ := h
  have hlt := hx.lt
  have HT := Lib.hid hown
  clear hown
  have zl := Pu.zig_lo z
  have zh := Pu.zig_hi z z0 z1
  have hz := fun w1 => zig_any z z0 z1 w1
  obtain ⟨u, hu⟩ := Int.eq_ofNat_of_zero_le zl
  rw [hu] at hz zh ⊢
  rw [Int.toNat_natCast]
  have hv := fun w1 => var_any (.slice none 0 0) [] u (by omega) (by decide) w1 0 (Nat.zero_le _) (RdV.nil_ _ _)
  simp only [List.nil_append] at hv
  have hvl : (Pu.varL u).length ≤ 10 := Pu.varL_length u
  have hvp : 0 < (Pu.varL u).length := by unfold Pu.varL Pu.varF; split <;> simp
  have d1 := hx.cell
  have d2 : w.drew.cell? ⟨k, 0, none⟩ = some v := d1
  have HV := Lib.hid hv
  have HZ := Lib.hid hz
  have HX := Lib.hid hx
  have HO := Lib.hid ho
  have HNE := Lib.hid hne
  have hb0 : B ≤ w.heap.size := by omega
  clear hu hv hz hx ho hne zl
  go_enter Tryd.func30, Tryd.ntmps30
  go_wp2
  go_region_law (first
    | (refine step_if (by rfl) ?_; go_simp; go_at_call 58; refine Calls.mono (HZ.out _) ?_; rintro e w1 ⟨rfl, rfl⟩)
    | (refine step_if (by rfl) ?_; go_simp; go_at_call 57; refine Calls.mono (HV.out _) ?_; rintro e w2 ⟨r2, rfl, hr2, hb2'⟩; have hb2 : Below w.heap.size w w2 := ((Below.refl _ w).drew).trans hb2'; have hx2 : WBox w2 k v := HX.out.next hb2; have d3 := hx2.cell; have ho2 : w2.ownsRow B 5 1 v l.length (bv l) := own_below HO.out hb2; have hB2 : Below B w w2 := hb2.mono hb0; have hs2 := hB2.size)
    | (refine step_append_rd _ rfl (.tmp 9) (.tmp 12) 23 (by rfl) B 5 (.int .u8 0) 1 Tryd.underlying23 Tryd.inf5 rfl v _ _ (by rfl) ho2 _ (by rfl) _ _ hr2 (bv_one _) (by rw [bv_length]; omega) (by omega) (by omega) ?_; intro v3 w3 ho3 hg3 hv3; obtain ⟨g3, cap3, rfl⟩ := Joins.ownsRow_form ho3 (by rw [bv_length]; omega); have hx3 : WBox w3 k v := hx2.grown hg3 (fun e => HNE.out e.symm); have d4 := hx3.cell; have f4 := hx3.free; have hB3 : Below B w w3 := hB2.grown hg3 (by omega) (fun g hg => (ho2.lt g hg).1))
    | fail)
  all_goals go_wp2
  all_goals go_ret
  all_goals
    have hne3 : (Value.slice (some ⟨g3, 0, none⟩) (l.length + (bv (Pu.varL u)).length) cap3).ownBlock ≠ some k := by
      intro e
      rcases hv3 with h | h
      · rw [h] at e; exact HNE.out e
      · rw [h] at e; have := hx2.lt; injection e with e; omega
    have hO : w3.ownsRow B 5 1 (.slice (some ⟨g3, 0, none⟩) (l.length + (bv (Pu.varL u)).length) cap3) (l ++ Pu.varL u).length (bv (l ++ Pu.varL u)) := by
      rw [List.length_append, bv_append, ← bv_length (Pu.varL u)]; exact ho3
    have hfin : WrP B O w k (l ++ Pu.varL u) (.returned (.pointer (some ⟨k, 0, none⟩))) (w3.setCell ⟨k, 0, none⟩ (.slice (some ⟨g3, 0, none⟩) (l.length + (bv (Pu.varL u)).length) cap3)) :=
      ⟨rfl, ⟨_, hBk, hx3.set _, own_set hO k 0 hne3 _, hne3, fun g hg => by
        rcases hv3 with h | h
        · rw [h] at hg; exact Or.inl (HT.out g hg)
        · rw [h] at hg; injection hg with hg; have := hb2.size; exact Or.inr (by omega)⟩, Below.setCell (p := ⟨k, 0, none⟩) hB3 hBk _,
        fun j hj1 hj2 hj3 => (heap_setCell_other w3 ⟨k, 0, none⟩ j _ hj2).trans ((hg3.block j (by have := hb2.size; omega) (fun e => hj3 (HT.out j e.symm))).trans (hb2.block j hj1))⟩
    exact hfin
set_option maxRecDepth 100000 in
set_option maxHeartbeats 4000000 in
theorem wbytes_any (w : World) (B : Nat) (O : Nat → Prop) (k : Nat) (l : List UInt8) (A : Option Addr) (c : Nat) (m : List UInt8) (C : Nat) (hr : ∀ w1, Below B w w1 → Kept O k w w1 → RdV w1 C (.slice A m.length c) (bv m)) (hm : 0 < m.length) (hml : m.length < 1073741824) (h : Wr B O w k l) (hl : l.length < 1000000000) :
    Calls Tryd.prog 31 #[.pointer (some ⟨k, 0, none⟩), .slice A m.length c] w (WrP B O w k (l ++ Pu.varL (Pu.zig m.length).toNat ++ m)) := by
  have h1 := wint_any w B O k l m.length (by omega) (by omega) h (by omega)
  have hvl : (Pu.varL (Pu.zig m.length).toNat).length ≤ 10 := Pu.varL_length _
  generalize hq : Pu.varL (Pu.zig (m.length : Int)).toNat = q at *
  clear hq
  have H1 := Lib.hid h1
  have HR := Lib.hid hr
  clear h1 h hr
  go_enter Tryd.func31, Tryd.ntmps31
  go_wp2_with fail
  refine H1.out.mono ?_
  rintro e w1 ⟨rfl, ⟨v, hBk, hx, ho, hne, hvT⟩, hb1, hkp⟩
  have d1 := hx.cell
  have f1 := hx.free
  have hlt := hx.lt
  have KP := Lib.hid hkp
  have VT := Lib.hid hvT
  have r1 := HR.out w1 hb1 hkp
  clear hkp hvT
  have R1 := Lib.hid r1
  have HO := Lib.hid ho
  have HX := Lib.hid hx
  have HNE := Lib.hid hne
  clear ho hx hne r1
  go_wp2_with (at_builtin; refine wpList_append_rd _ rfl _ _ 23 rfl B 5 (.int .u8 0) 1 Tryd.underlying23 Tryd.inf5 rfl v _ _ rfl HO.out _ rfl _ _ R1.out (bv_one _) (by rw [bv_length, List.length_append]; omega) (by omega) (by omega) ?_; intro v3 w3 ho3 hg3 hv3; obtain ⟨g3, cap3, rfl⟩ := Joins.ownsRow_form ho3 (by rw [bv_length]; omega); have hx3 : WBox w3 k v := HX.out.grown hg3 (fun e => HNE.out e.symm); have d4 := hx3.cell; have f4 := hx3.free; have hB3 : Below B w w3 := hb1.grown hg3 (by omega) (fun g hg => (HO.out.lt g hg).1))
  go_ret
  have hne3 : (Value.slice (some ⟨g3, 0, none⟩) ((l ++ q).length + (bv m).length) cap3).ownBlock ≠ some k := by
    intro e
    rcases hv3 with h | h
    · rw [h] at e; exact HNE.out e
    · rw [h] at e; injection e with e; omega
  have hO : w3.ownsRow B 5 1 (.slice (some ⟨g3, 0, none⟩) ((l ++ q).length + (bv m).length) cap3) (l ++ q ++ m).length (bv (l ++ q ++ m)) := by
    have eL : (l ++ q ++ m).length = (l ++ q).length + (bv m).length := by rw [bv_length]; exact List.length_append
    rw [eL, bv_append (l ++ q)]; exact ho3
  have hfin : WrP B O w k (l ++ q ++ m) (.returned (.pointer (some ⟨k, 0, none⟩))) (w3.setCell ⟨k, 0, none⟩ (.slice (some ⟨g3, 0, none⟩) ((l ++ q).length + (bv m).length) cap3)) :=
    ⟨rfl, ⟨_, hBk, hx3.set _, own_set hO k 0 hne3 _, hne3, fun g hg => by
        rcases hv3 with h | h
        · rw [h] at hg; exact VT.out g hg
        · rw [h] at hg; injection hg with hg; have := hb1.size; exact Or.inr (by omega)⟩, Below.setCell (p := ⟨k, 0, none⟩) hB3 hBk _,
      fun j hj1 hj2 hj3 => (heap_setCell_other w3 ⟨k, 0, none⟩ j _ hj2).trans ((hg3.block j (by have := hb1.size; omega) (fun e => by
        rcases VT.out j e.symm with h | h
        · exact hj3 h
        · omega)).trans (KP.out j hj1 hj2 hj3))⟩
  have e7 : (l ++ q).length = l.length + q.length := List.length_append
  rw [e7] at hfin
  exact hfin
set_option maxRecDepth 100000 in
set_option maxHeartbeats 4000000 in
theorem wnew_any (w : World) : Calls Tryd.prog 29 #[] w (WrP w.heap.size (fun _ => False) w w.heap.size []) := by
  have hx : WBox (w.alloc (.cells #[.slice none 0 0] 88)) w.heap.size (.slice none 0 0) := heap_alloc_new w _
  have hfin : WrP w.heap.size (fun _ => False) w w.heap.size [] (.returned (.pointer (some ⟨w.heap.size, 0, none⟩))) (w.alloc (.cells #[.slice none 0 0] 88)) :=
    ⟨rfl, ⟨_, Nat.le_refl _, hx, ⟨by simp [bv], Or.inl ⟨rfl, rfl⟩⟩, by simp [Value.ownBlock], fun g hg => by simp [Value.ownBlock] at hg⟩, (Below.refl _ _).alloc (Nat.le_refl _) _, fun j hj _ _ => Below.heap_alloc _ _ _ hj⟩
  have HF := Lib.hid hfin
  clear hfin hx
  go_enter Tryd.func29, Tryd.ntmps29
  go_wp2
  go_ret
  exact HF.out
set_option maxRecDepth 100000 in
set_option maxHeartbeats 4000000 in
theorem wdone_any (w : World) (B : Nat) (O : Nat → Prop) (k : Nat) (l : List UInt8) (h : Wr B O w k l) (hl : l.length < 1073741824) : Calls Tryd.prog 32 #[.pointer (some ⟨k, 0, none⟩)] w (TellC w l) := by
  obtain ⟨v, hBk, hx, ho, hne, _⟩ := h
  have d1 := hx.cell
  have R1 := Lib.hid (RdV.own ho)
  have hnil : w.ownsRow w.heap.size 5 1 (.slice none 0 0) 0 [] := ⟨by simp, Or.inl ⟨rfl, rfl⟩⟩
  have HO := Lib.hid hnil
  clear hx ho hne hnil
  go_enter Tryd.func32, Tryd.ntmps32
  go_wp2_with (at_builtin; refine wpList_append_rd _ rfl _ _ 23 rfl w.heap.size 5 (.int .u8 0) 1 Tryd.underlying23 Tryd.inf5 rfl _ 0 _ rfl HO.out _ rfl _ _ R1.out (bv_one _) (by rw [bv_length]; omega) (by omega) (Nat.le_refl _) ?_; intro v3 w3 ho3 hg3 hv3)
  go_ret
  have hR := RdV.own ho3
  rw [List.nil_append] at hR
  exact ⟨_, rfl, hR, (Below.refl _ w).grown hg3 (Nat.le_refl _) (by intro g hg; cases hg)⟩
set_option maxRecDepth 100000 in
set_option maxHeartbeats 4000000 in
theorem kcodec_any (w : World) (hn : Nibs w) : Calls Tryd.prog 9 #[] w fun e w' => e = .returned (.bool true) ∧ Below w.heap.size w w' := by
  have f1 := frame_any 1 (.slice none 0 0) [] (by decide) w 0 (Nat.zero_le _) (RdV.nil_ _ _) hn
  have hfl : (frameL 1 []).length = 13 := frameL_length 1 []
  have F1 := Lib.hid f1
  have HFL := Lib.hid hfl
  clear f1 hfl
  go_enter Tryd.func9, Tryd.ntmps9
  go_wp2_with fail
  refine F1.out.mono ?_
  rintro e w1 ⟨r1, rfl, ho1, hb1⟩
  rw [HFL.out] at ho1
  obtain ⟨g1, cap1, rfl⟩ := Joins.ownsRow_form ho1 (by decide)
  have n1 := wnew_any w1
  have N1 := Lib.hid n1
  clear ho1 n1
  go_wp2_with fail
  refine N1.out.mono ?_
  rintro e w2 ⟨rfl, hw2, hb2, _⟩
  have hB2 := hb1.trans (hb2.mono hb1.size)
  have i1 := wint_any w2 _ _ _ _ (-1) (by decide) (by decide) hw2 (by decide)
  rw [show [] ++ Pu.varL (Pu.zig (-1)).toNat = [1] from by decide +kernel] at i1
  have I1 := Lib.hid i1
  clear i1 hw2
  go_wp2_with fail
  refine I1.out.mono ?_
  rintro e w3 ⟨rfl, hw3, hb3, _⟩
  have hB3 : Below w1.heap.size w1 w3 := hb2.trans hb3
  have hlow := hw3.low
  have hs3 := hw3.lt
  have hb4 : Below w3.heap.size w3 (w3.alloc (.cells #[.int .u8 97] 5 (1, 2))) := (Below.refl _ _).alloc (Nat.le_refl _) _
  have hw4 := hlow.next hb4
  have hd4 : (w3.alloc (.cells #[.int .u8 97] 5 (1, 2))).heap[w3.heap.size]? = some (.cells #[.int .u8 97] 5 (1, 2)) := heap_alloc_new w3 _
  have y1 := wbytes_any (w3.alloc (.cells #[.int .u8 97] 5 (1, 2))) w1.heap.size _ w1.heap.size [1] (some ⟨w3.heap.size, 0, none⟩) 1 [97] (w3.heap.size + 1)
    (fun W hbW hkW => ⟨_, 1, rfl, by decide, by decide, fun _ => ⟨w3.heap.size, 0, rfl, by omega, fun j u hu => by
      have h5 := hkW w3.heap.size (by simp) (by omega) (by simp)
      rw [hd4] at h5
      rw [cell_of_row W w3.heap.size (0 + j) _ _ _ h5, Nat.zero_add]
      simpa [bv] using hu⟩⟩) (by decide) (by decide) hw4 (by decide)
  rw [show ([1] : List UInt8) ++ Pu.varL (Pu.zig ((([97] : List UInt8).length : Nat) : Int)).toNat ++ [97] = [1, 2, 97] from by decide +kernel] at y1
  have hcv := Joins.run_convert_bytes_const_at (P := Tryd.prog) w3 23 5 #[.int .u8 97] 1 1 w3.heap.size rfl Tryd.underlying23 Tryd.underlying5
  rw [show (#[Value.int .u8 97] : Array Value).size = 1 from rfl] at hcv
  have Y1 := Lib.hid y1
  have hB4 : Below w1.heap.size w1 (w3.alloc (.cells #[.int .u8 97] 5 (1, 2))) := hB3.alloc (by omega) _
  clear y1 hlow hw3 hw4 hd4 hb4
  go_wp2_with fail
  refine Y1.out.mono ?_
  rintro e w5 ⟨rfl, hw5, hb5, _⟩
  have hB5 := hB4.trans hb5
  have z1 := wdone_any w5 _ _ _ _ hw5 (by decide)
  have Z1 := Lib.hid z1
  clear z1 hw5
  go_wp2_with fail
  refine Z1.out.mono ?_
  rintro e w6 ⟨r6, rfl, hr6, hb6⟩
  have cv6 := run_conv_rd (P := Tryd.prog) w6 23 9 5 Tryd.underlying23 Tryd.underlying5 Tryd.underlying9 _ _ _ hr6
  have hB6 : Below w1.heap.size w1 w6 := hB5.trans (hb6.mono hB5.size)
  clear hr6
  go_wp2
  go_ret
  exact ⟨rfl, nextB hB6 hb1⟩
end Go.Proofs.YtgcgehdbgegfeaaDoor
