/- What can be seen of both pools of frames. Conditions: none. -/
import Derived.Test.YtdbaidkepngjcaaFrz
import Derived.Test.YtdbaidkepngjcaaInm
namespace Go.Proofs.Ytdbaidkepngjcaa
open Go.ChangeShapes Go.WideShapes Go.ChangeAt Go.RowKit Go.Maps
set_option linter.unusedSimpArgs false
set_option linter.unusedVariables false
set_option maxRecDepth 100000 in
set_option maxHeartbeats 8000000 in
theorem looks_any (pb lb mb qb rb c n q : Nat) (w : World) (h : FI pb lb mb qb rb c n q w) (op key fr : Int) (wr : Bool) (hk : (Lit.int .i64 key).wf = true) (hf : (Lit.int .i64 fr).wf = true) :
    Calls Try.prog 11 #[.pointer (some ⟨pb, 0, none⟩), .pointer (some ⟨qb, 0, none⟩), .agg #[.int .i64 op, .int .i64 key, .int .i64 fr, .bool wr]] w fun e w' => e = .returned (.bool true) ∧ Frm (fun _ => False) w w' := by
  have hbw : Frm (fun _ => False) w (w.alloc (.cells #[.int .i64 op, .int .i64 key, .int .i64 fr, .bool wr] 33)) := (Frm.refl _ w).alloc _
  have hx := heap_alloc_new w (.cells #[.int .i64 op, .int .i64 key, .int .i64 fr, .bool wr] 33)
  obtain ⟨x, cd, hA1, hA2⟩ := fat h fr hf
  obtain ⟨xk, xu, xr, xd, xp⟩ := x
  rw [show frV ⟨xk, xu, xr, xd, xp⟩ = .agg #[.int .i64 xk, .bool xu, .bool xr, .bool xd, .int .i64 (xp : Nat)] from rfl] at hA1 hA2
  obtain ⟨i, b, hB1, hB2⟩ := ffind h key hk
  obtain ⟨u, d, k, hC1, hC2⟩ := fcount h
  obtain ⟨v, vb, hD1, hD2⟩ := fvict h
  obtain ⟨hd, hE1, hE2⟩ := fhand h
  have HA1 := Lib.hid hA1
  have HA2 := Lib.hid hA2
  have HB1 := Lib.hid hB1
  have HB2 := Lib.hid hB2
  have HC1 := Lib.hid hC1
  have HC2 := Lib.hid hC2
  have HD1 := Lib.hid hD1
  have HD2 := Lib.hid hD2
  have HE1 := Lib.hid hE1
  have HE2 := Lib.hid hE2
  clear hA1 hA2 hB1 hB2 hC1 hC2 hD1 hD2 hE1 hE2
  have hsz : (w.alloc (.cells #[.int .i64 op, .int .i64 key, .int .i64 fr, .bool wr] 33)).heap.size = w.heap.size + 1 := by simp
  go_enter Try.func11, Try.ntmps11
  go_upto_region 1 with (fail)
  generalize w.alloc (.cells #[.int .i64 op, .int .i64 key, .int .i64 fr, .bool wr] 33) = W at hbw hx hsz ⊢
  have hcell : ∀ w2 (hF : Frm (fun _ => False) W w2), w2.cell? ⟨w.heap.size, 1, none⟩ = some (.int .i64 key) ∧ w2.cell? ⟨w.heap.size, 2, none⟩ = some (.int .i64 fr) := fun w2 hF => by
    have hb2 := hF.block w.heap.size (by omega) id
    exact ⟨(World.cell?_of_block (a := ⟨w.heap.size, 1, none⟩) hb2).trans (cell_of_row W w.heap.size 1 _ _ _ hx), (World.cell?_of_block (a := ⟨w.heap.size, 2, none⟩) hb2).trans (cell_of_row W w.heap.size 2 _ _ _ hx)⟩
  have HCELL := Lib.hid hcell
  have y2 := (hcell W (Frm.refl _ _)).2
  have HBW := Lib.hid hbw
  clear hx hcell
  have T := Lib.hid (HA1.out W hbw)
  clear hbw HA1 h
  go_wp2_with fail
  refine T.out.mono ?_
  rintro e w2 ⟨rfl, hF2⟩
  clear T y2
  have hFa : Frm (fun _ => False) w2 (w2.alloc (.cells #[.int .i64 xk, .bool xu, .bool xr, .bool xd, .int .i64 (xp : Nat)] 38)) := (Frm.refl _ w2).alloc _
  have hxa := heap_alloc_new w2 (.cells #[.int .i64 xk, .bool xu, .bool xr, .bool xd, .int .i64 (xp : Nat)] 38)
  have hsa : (w2.alloc (.cells #[.int .i64 xk, .bool xu, .bool xr, .bool xd, .int .i64 (xp : Nat)] 38)).heap.size = w2.heap.size + 1 := by simp
  have hF3 := hF2.trans hFa
  have hz2 := hF2.size
  clear hF2 hFa
  go_upto_region 2 with (fail)
  generalize w2.alloc (.cells #[.int .i64 xk, .bool xu, .bool xr, .bool xd, .int .i64 (xp : Nat)] 38) = w3 at hxa hsa hF3 ⊢
  have y2 := (HCELL.out w3 hF3).2
  have T := Lib.hid (HA2.out w3 (HBW.out.trans hF3))
  have HF3 := Lib.hid hF3
  clear HA2 hF3
  go_wp2_with fail
  refine T.out.mono ?_
  rintro e w4 ⟨rfl, hF4⟩
  clear T y2
  have hFa : Frm (fun _ => False) w4 (w4.alloc (.cells #[.int .i64 xk, .bool xu, .bool xr, .bool xd, .int .i64 (xp : Nat)] 59)) := (Frm.refl _ w4).alloc _
  have hxb := heap_alloc_new w4 (.cells #[.int .i64 xk, .bool xu, .bool xr, .bool xd, .int .i64 (xp : Nat)] 59)
  have hsb : (w4.alloc (.cells #[.int .i64 xk, .bool xu, .bool xr, .bool xd, .int .i64 (xp : Nat)] 59)).heap.size = w4.heap.size + 1 := by simp
  have hxa5 := ((hF4.trans hFa).block w2.heap.size (by omega) id).trans hxa
  have hF5 := HF3.out.trans (hF4.trans hFa)
  have hz4 := hF4.size
  clear hF4 hFa hxa
  go_upto_region 3 with (fail)
  generalize w4.alloc (.cells #[.int .i64 xk, .bool xu, .bool xr, .bool xd, .int .i64 (xp : Nat)] 59) = w5 at hxa5 hxb hsb hF5 ⊢
  have HXA := Lib.hid hxa5
  have HXB := Lib.hid hxb
  have y1 := (HCELL.out w5 hF5).1
  have T := Lib.hid (HB1.out w5 (HBW.out.trans hF5))
  have T2 := Lib.hid (HB2.out w5 (HBW.out.trans hF5))
  have T3 := Lib.hid (HC1.out w5 (HBW.out.trans hF5))
  have HF5 := Lib.hid hF5
  clear HB1 HB2 HC1 hF5 HF3 hxa5 hxb
  go_wp2_with fail
  refine T.out.mono ?_
  rintro e w6 ⟨rfl, rfl⟩
  go_wp2_with fail
  refine T2.out.mono ?_
  rintro e w7 ⟨rfl, rfl⟩
  go_wp2_with fail
  refine T3.out.mono ?_
  rintro e w8 ⟨rfl, hF8⟩
  clear T T2 T3 y1
  have hF8' := HF5.out.trans hF8
  have T := Lib.hid (HC2.out w8 (HBW.out.trans hF8'))
  have T2 := Lib.hid (HD1.out w8 (HBW.out.trans hF8'))
  have HF8 := Lib.hid hF8
  have HF8' := Lib.hid hF8'
  clear HC2 HD1 hF8 hF8'
  go_wp2_with fail
  refine T.out.mono ?_
  rintro e w9 ⟨rfl, rfl⟩
  go_wp2_with fail
  refine T2.out.mono ?_
  rintro e w10 ⟨rfl, hF10⟩
  clear T T2
  have T := Lib.hid (HD2.out w10 (HBW.out.trans (HF8'.out.trans hF10)))
  have HF10 := Lib.hid (HF8.out.trans hF10)
  clear HD2 hF10
  go_wp2_with fail
  refine T.out.mono ?_
  rintro e w11 ⟨rfl, hF11⟩
  clear T
  have hFx := HF10.out.trans hF11
  have HFW := Lib.hid (HBW.out.trans (HF5.out.trans hFx))
  have hlx := hFx.size
  have HC := Lib.hid (show ∀ wz, Grow w11 wz → wz.cell? ⟨w2.heap.size, 0, none⟩ = some (.int .i64 xk) ∧ wz.cell? ⟨w2.heap.size, 1, none⟩ = some (.bool xu) ∧ wz.cell? ⟨w2.heap.size, 2, none⟩ = some (.bool xr) ∧ wz.cell? ⟨w2.heap.size, 3, none⟩ = some (.bool xd) ∧ wz.cell? ⟨w2.heap.size, 4, none⟩ = some (.int .i64 (xp : Nat)) ∧ wz.cell? ⟨w4.heap.size, 0, none⟩ = some (.int .i64 xk) ∧ wz.cell? ⟨w4.heap.size, 1, none⟩ = some (.bool xu) ∧ wz.cell? ⟨w4.heap.size, 2, none⟩ = some (.bool xr) ∧ wz.cell? ⟨w4.heap.size, 3, none⟩ = some (.bool xd) ∧ wz.cell? ⟨w4.heap.size, 4, none⟩ = some (.int .i64 (xp : Nat)) ∧ wz.cell? ⟨qb, 1, none⟩ = some (.int .i64 hd) from fun wz hz => by
    have hFz : Frm (fun _ => False) _ wz := hFx.trans (Frm.of_below hz)
    have ha := (hFz.block w2.heap.size (by omega) id).trans HXA.out
    have hb := (hFz.block w4.heap.size (by omega) id).trans HXB.out
    exact ⟨cell_of_row wz _ 0 _ _ _ ha, cell_of_row wz _ 1 _ _ _ ha, cell_of_row wz _ 2 _ _ _ ha, cell_of_row wz _ 3 _ _ _ ha, cell_of_row wz _ 4 _ _ _ ha, cell_of_row wz _ 0 _ _ _ hb, cell_of_row wz _ 1 _ _ _ hb, cell_of_row wz _ 2 _ _ _ hb, cell_of_row wz _ 3 _ _ _ hb, cell_of_row wz _ 4 _ _ _ hb, HE2.out wz (HFW.out.trans (Frm.of_below hz))⟩)
  have HS := Lib.hid (show ∀ wz, Calls Try.prog 22 #[.agg #[.int .i64 xk, .bool xu, .bool xr, .bool xd, .int .i64 (xp : Nat)], .agg #[.int .i64 xk, .bool xu, .bool xr, .bool xd, .int .i64 (xp : Nat)]] wz fun e w' => e = .returned (.bool true) ∧ Grow wz w' from fun wz => (same_any ⟨xk, xu, xr, xd, xp⟩ wz).mono fun e w' h => ⟨h.1, Below.of_frm h.2⟩)
  have HH := Lib.hid (show ∀ wz, Grow w11 wz → Calls Try.prog 20 #[.pointer (some ⟨pb, 0, none⟩)] wz fun e w' => e = .returned (.int .i64 hd) ∧ Grow wz w' from fun wz hz => (HE1.out wz (HFW.out.trans (Frm.of_below hz))).mono fun e w' h => ⟨h.1, by rw [h.2]; exact Grow.refl _⟩)
  clear hF11 HF10 HF8 HF8' HCELL HE1 HE2 HXA HXB hFx
  go_wp2_with fail
  refine region_inv [none, none, some (DVal (.bool true)), none, none, none, none, none, none, none, none, none, none, none, none, none, none, none, none, none, none, none, none, none, none, none, none, none, none, none, none, none, none, none, none, none, none, none, none, none, none, none, none, none, none, some (DVal (.int .i64 hd)), none, none, none, none, none, none, none] (by kernel_rfl) (by kernel_rfl) ⟨DVal.stable _, DVal.stable _, trivial⟩ (by kernel_rfl) ?_
  (refine inv_val (by rfl) (by intro w hg hl; obtain ⟨k0, k1, k2, k3, k4, _⟩ := HC.out w hg; clear hl; go_simp; with_reducible rfl) (fun K hK => ?_); go_simp; refine hK _ ?_; clear hK K)
  (refine inv_val (by rfl) (by intro w hg hl; obtain ⟨_, _, _, _, _, k0, k1, k2, k3, k4, _⟩ := HC.out w hg; clear hl; go_simp; with_reducible rfl) (fun K hK => ?_); go_simp; refine hK _ ?_; clear hK K)
  refine inv_is (by rfl) (by rfl) (by
      intro w hg hl
      clear hl
      refine gets_sem ?_
      go_simp
      refine (HS.out w).mono ?_
      rintro e w5 ⟨rfl, hb5⟩
      exact ⟨_, rfl, rfl, hb5⟩) (fun K hK => ?_)
  go_simp; refine hK _ ?_; clear hK K
  iterate 42 (refine inv_val (by rfl) (by intro w hg hl; clear hl; go_simp; with_reducible rfl) (fun K hK => ?_); go_simp; refine hK _ ?_; clear hK K)
  refine inv_is (by rfl) (by rfl) (by
      intro w hg hl
      clear hl
      refine gets_sem ?_
      go_simp
      refine (HH.out w hg).mono ?_
      rintro e w5 ⟨rfl, hb5⟩
      exact ⟨_, rfl, rfl, hb5⟩) (fun K hK => ?_)
  go_simp; refine hK _ ?_; clear hK K
  iterate 3 (refine inv_val (by rfl) (by intro w hg hl; clear hl; go_simp; with_reducible rfl) (fun K hK => ?_); go_simp; refine hK _ ?_; clear hK K)
  (refine inv_val (by rfl) (by intro w hg hl; obtain ⟨_, _, _, _, _, _, _, _, _, _, k0⟩ := HC.out w hg; clear hl; go_simp; with_reducible rfl) (fun K hK => ?_); go_simp; refine hK _ ?_; clear hK K)
  iterate 3 (refine inv_val (by rfl) (by intro w hg hl; clear hl; go_simp; with_reducible rfl) (fun K hK => ?_); go_simp; refine hK _ ?_; clear hK K)
  intro w12 hg hh
  clear hh
  have HF := Lib.hid (HFW.out.trans (Frm.of_below hg))
  clear hg
  go_wp2
  go_ret
  exact ⟨rfl, HF.out⟩
end Go.Proofs.Ytdbaidkepngjcaa
