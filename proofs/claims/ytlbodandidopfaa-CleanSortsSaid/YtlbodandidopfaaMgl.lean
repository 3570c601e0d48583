/- The law's test of two places: CleanSorts' closure. Conditions: its four variables lie where they are. -/
import Derived.Test.YtlbodandidopfaaMgs
namespace Go.Proofs.Ytlbodandidopfaa
open Go.ChangeShapes Go.WideShapes Go.ChangeAt Go.RowKit
set_option linter.unusedSimpArgs false
set_option linter.unusedVariables false
/-- the closure's four variables -/
structure Four (gN gO gL gY B : Nat) (odd : Bool) (b : Int) (lv : Value) (L : List Int) (w : World) : Prop where
  cn : ∃ c : Int, w.cell? ⟨gN, 0, none⟩ = some (.int .i64 c)
  cf : w.frozen? ⟨gN, 0, none⟩ = false
  co : w.cell? ⟨gO, 0, none⟩ = some (.bool odd)
  cl : w.cell? ⟨gL, 0, none⟩ = some lv
  cy : w.cell? ⟨gY, 0, none⟩ = some (.int .i64 b)
  rd : RdV w B lv (iv .i64 L)
  lt : gN < w.heap.size ∧ gO < w.heap.size ∧ gL < w.heap.size ∧ gY < w.heap.size ∧ B ≤ w.heap.size
theorem Four.keep {gN gO gL gY B : Nat} {odd : Bool} {b : Int} {lv : Value} {L : List Int} {w w' : World} (h : Four gN gO gL gY B odd b lv L w) {O : Nat → Prop} (hf : Frm O w w') (h1 : ¬ O gN) (h2 : ¬ O gO) (h3 : ¬ O gL) (h4 : ¬ O gY) (h5 : ∀ j, O j → B ≤ j) : Four gN gO gL gY B odd b lv L w' := by
  obtain ⟨⟨c, hc⟩, hfz, ho, hl, hy, hr, q1, q2, q3, q4, q5⟩ := h
  have hs := hf.size
  have k := fun (g : Nat) (hg : g < w.heap.size) (hO : ¬ O g) => World.cell?_of_block (a := ⟨g, 0, none⟩) (hf.block g hg hO)
  refine ⟨⟨c, (k gN q1 h1).trans hc⟩, ?_, (k gO q2 h2).trans ho, (k gL q3 h3).trans hl, (k gY q4 h4).trans hy, hr.below (hf.below h5 q5), by omega, by omega, by omega, by omega, by omega⟩
  have := hf.block gN q1 h1
  simp only [World.frozen?] at hfz ⊢
  rw [this]
  exact hfz
def tOdd (odd : Bool) (k : Int → Int) (y x : Int) (c : Bool) : Prop := odd = false → c = decide (k y < k x)
def keyOf (L : List Int) (b : Int) (z : Int) : Int := IntKind.i64.wrap ((L.getD z.toNat 0).tdiv b)
theorem keyOf_at {L : List Int} {b : Int} {i : Nat} {u : Int} (h : L[i]? = some u) : keyOf L b (i : Nat) = IntKind.i64.wrap (u.tdiv b) := by
  unfold keyOf
  rw [Int.toNat_natCast, List.getD_eq_getElem?_getD, h]
  rfl
def AllAt (a b : World) : Prop := b.heap = a.heap
theorem AllAt.cell {a b : World} (h : AllAt a b) (x : Addr) : b.cell? x = a.cell? x := World.cell?_of_block (congrArg (·[x.block]?) h)
set_option maxRecDepth 100000 in
set_option maxHeartbeats 8000000 in
theorem sless_any (gN gO gL gY B : Nat) (odd : Bool) (b : Int) (hb : 1 ≤ b ∧ b ≤ 1073741824) (lv : Value) (L : List Int) (hL : ∀ z ∈ L, (Lit.int .i64 z).wf = true) (d1 : gN ≠ gO) (d2 : gN ≠ gL) (d3 : gN ≠ gY) (d4 : B ≤ gN) :
    LessC 48 (fun x y => #[x, y, .pointer (some ⟨gN, 0, none⟩), .pointer (some ⟨gO, 0, none⟩), .pointer (some ⟨gL, 0, none⟩), .pointer (some ⟨gY, 0, none⟩)]) (tOdd odd (keyOf L b)) (fun z => ∃ i : Nat, z = (i : Nat) ∧ i < L.length) (fun j => j = gN) (Four gN gO gL gY B odd b lv L) Try.prog := by
  rintro w x y ⟨i, rfl, hi⟩ ⟨j, rfl, hj⟩ hF
  obtain ⟨u, hu⟩ : ∃ u, L[i]? = some u := ⟨_, List.getElem?_eq_getElem hi⟩
  obtain ⟨v, hv⟩ : ∃ v, L[j]? = some v := ⟨_, List.getElem?_eq_getElem hj⟩
  obtain ⟨⟨c, hc⟩, hfz, ho, hl, hy, ⟨A, cp, rfl, hc1, hc2, hA⟩, hlt⟩ := id hF
  rw [iv_length] at *
  obtain ⟨g, off, rfl, hgB, hcell⟩ := hA (by omega)
  have cu : w.cell? ⟨g, off + i, none⟩ = some (.int .i64 u) := hcell i _ (by rw [iv_get, hu]; rfl)
  have cv : w.cell? ⟨g, off + j, none⟩ = some (.int .i64 v) := hcell j _ (by rw [iv_get, hv]; rfl)
  have hgn : ¬ g = gN := by omega
  have hb0 : ¬ b = 0 := by omega
  have hb1 : ¬ b = -1 := by omega
  have HF := Lib.hid hF
  have HK : Hid (∀ q : Int, Four gN gO gL gY B odd b (.slice (some ⟨g, off, none⟩) L.length cp) L (w.setCell ⟨gN, 0, none⟩ (.int .i64 q)) ∧ Frm (fun j => j = gN) w (w.setCell ⟨gN, 0, none⟩ (.int .i64 q))) := Lib.hid (fun q => by
    have hf : Frm (fun j => j = gN) w (w.setCell ⟨gN, 0, none⟩ (.int .i64 q)) := Frm.setCell (O := fun j => j = gN) (Frm.refl _ w) gN 0 (Or.inl rfl) _
    have hs := hf.size
    refine ⟨⟨⟨q, World.cell?_setCell_same _ _ _ hc⟩, by rw [World.frozen?_setCell]; exact hfz, ?_, ?_, ?_, ?_, by omega, by omega, by omega, by omega, by omega⟩, hf⟩
    · exact (World.cell?_of_block (a := ⟨gO, 0, none⟩) (hf.block gO hlt.2.1 (fun e => d1 e.symm))).trans ho
    · exact (World.cell?_of_block (a := ⟨gL, 0, none⟩) (hf.block gL hlt.2.2.1 (fun e => d2 e.symm))).trans hl
    · exact (World.cell?_of_block (a := ⟨gY, 0, none⟩) (hf.block gY hlt.2.2.2.1 (fun e => d3 e.symm))).trans hy
    · exact HF.out.rd.below (hf.below (fun j e => by omega) hlt.2.2.2.2))
  clear hF hcell hA
  have d1' := d1.symm
  have d2' := d2.symm
  have d3' := d3.symm
  obtain ⟨q, hq⟩ : ∃ q, q = wrap64 (c + 1) := ⟨_, rfl⟩
  cases odd with
  | true =>
    go_enter Try.func48, Try.ntmps48
    go_wp2_with fail
    go_ret
    have := HK.out (wrap64 (c + 1))
    exact ⟨_, rfl, fun h => (by cases h), this.1, this.2⟩
  | false =>
    go_enter Try.func48, Try.ntmps48
    go_wp2_with fail
    have h9 := HK.out (wrap64 (c + 1))
    have HK9 := Lib.hid h9
    have k1 : (w.setCell ⟨gN, 0, none⟩ (.int .i64 (wrap64 (c + 1)))).cell? ⟨g, off + i, none⟩ = some (.int .i64 u) := (World.cell?_of_block (a := ⟨g, off + i, none⟩) (h9.2.block g (by omega) hgn)).trans cu
    have k2 : (w.setCell ⟨gN, 0, none⟩ (.int .i64 (wrap64 (c + 1)))).cell? ⟨g, off + j, none⟩ = some (.int .i64 v) := (World.cell?_of_block (a := ⟨g, off + j, none⟩) (h9.2.block g (by omega) hgn)).trans cv
    have k3 := h9.1.cl
    have k4 := h9.1.cy
    clear h9 hc hfz ho hl hy cu cv hq HK
    generalize (w.setCell ⟨gN, 0, none⟩ (.int .i64 (wrap64 (c + 1)))) = W9 at *
    refine region_ord (AllAt W9) [false, false, false, false, false, false, false, false, false, false, false, false, false, false] (by kernel_rfl) (by kernel_rfl) (by kernel_rfl) (show AllAt W9 W9.drew from rfl) ?_
    iterate 14 (refine ord_val (by rfl) (by intro wz hi0; have z1 := (hi0.cell _).trans k1; have z2 := (hi0.cell _).trans k2; have z3 := (hi0.cell _).trans k3; have z4 := (hi0.cell _).trans k4; clear hi0; go_simp; with_reducible rfl) (fun K hK => ?_); go_simp; refine hK _ ?_; clear hK K)
    refine ord_nil ?_
    have HK8 := Lib.hid (show Four gN gO gL gY B false b (.slice (some ⟨g, off, none⟩) L.length cp) L W9.drew ∧ Frm (fun j => j = gN) w W9.drew from ⟨HK9.out.1.keep (O := fun _ => False) ((Frm.refl _ _).drew) id id id id (fun _ h => h.elim), HK9.out.2.drew⟩)
    clear k1 k2 k3 k4 HK9
    generalize W9.drew = W8 at *
    go_wp2
    go_ret
    exact ⟨_, rfl, fun _ => by rw [keyOf_at hu, keyOf_at hv], HK8.out.1, HK8.out.2⟩
end Go.Proofs.Ytlbodandidopfaa
