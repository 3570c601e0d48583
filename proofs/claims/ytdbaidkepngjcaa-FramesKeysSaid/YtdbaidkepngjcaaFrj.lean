/- The pool of frames: At, Victim, Drop. Conditions: none. -/
import Derived.Test.YtdbaidkepngjcaaFri
namespace Go.Proofs.Ytdbaidkepngjcaa
open Go.ChangeShapes Go.WideShapes Go.ChangeAt Go.RowKit Go.Maps
set_option linter.unusedSimpArgs false
set_option linter.unusedVariables false
section
variable (pb lb mb m : Nat) (p : Pl) (w : World) (h : PBox w pb lb mb m p)
include h
set_option maxRecDepth 100000 in
set_option maxHeartbeats 1000000 in
theorem at_yes (i : Nat) (hi : i < p.L.length) : Calls Try.prog 13 #[.pointer (some ⟨pb, 0, none⟩), .int .i64 (i : Nat)] w fun e w' => e = .returned (.tuple #[frV p.L[i], .int .i64 0]) ∧ Frm (fun _ => False) w w' := by
  have hn := h.ok.n
  obtain ⟨c0, c1, c2, c3, fr⟩ := h.at
  obtain ⟨x0, x1, x2, x3, x4⟩ := h.fr hi
  obtain ⟨l1, l2, l3⟩ := h.lt
  clear h c1 c2 c3 fr
  generalize p.L[i] = x at *
  generalize p.L.length = n at *
  go_enter Try.func13, Try.ntmps13
  go_wp2
  refine bodyPost_ret (v := .tuple #[frV x, .int .i64 0]) ?_ rfl ⟨rfl, (Frm.refl _ w).alloc _⟩
  have hr := run_loadVar_row (P := Try.prog) (w.alloc (.cells (frL x).toArray 38)) w.heap.size 38 38 (frL x).toArray (0, 0) _ (heap_alloc_new w (.cells (frL x).toArray 38)) Try.underlying38 rfl (by kernel_rfl)
  simp [frL] at hr
  simp [results, Try.f13, asAddr, hr, frV, frL]
set_option maxRecDepth 100000 in
set_option maxHeartbeats 1000000 in
theorem at_no (a : Int) (ha : (Lit.int .i64 a).wf = true) (hno : a < 0 ∨ (p.L.length : Int) ≤ a) : Calls Try.prog 13 #[.pointer (some ⟨pb, 0, none⟩), .int .i64 a] w fun e w' => e = .returned (.tuple #[frV Fr.zero, .int .i64 2]) ∧ Frm (fun _ => False) w w' := by
  have hn := h.ok.n
  obtain ⟨c0, c1, c2, c3, fr⟩ := h.at
  obtain ⟨l1, l2, l3⟩ := h.lt
  clear h c1 c2 c3 fr
  have hr := run_loadVar_row (P := Try.prog) (w.alloc (.cells (frL Fr.zero).toArray 38)) w.heap.size 38 38 (frL Fr.zero).toArray (0, 0) _ (heap_alloc_new w (.cells (frL Fr.zero).toArray 38)) Try.underlying38 rfl (by kernel_rfl)
  simp [frL, Fr.zero] at hr
  have HR := Lib.hid hr
  clear hr
  generalize p.L.length = n at *
  rcases Classical.em (a < 0) with h1 | h1
  · go_enter Try.func13, Try.ntmps13
    go_wp2
    refine bodyPost_ret (v := .tuple #[frV Fr.zero, .int .i64 2]) ?_ rfl ⟨rfl, (Frm.refl _ w).alloc _⟩
    have hr := HR.out
    simp [results, Try.f13, asAddr, hr, frV, frL, Fr.zero]
  · have h2 : (n : Int) ≤ a := by omega
    clear hno
    go_enter Try.func13, Try.ntmps13
    go_wp2
    refine bodyPost_ret (v := .tuple #[frV Fr.zero, .int .i64 2]) ?_ rfl ⟨rfl, (Frm.refl _ w).alloc _⟩
    have hr := HR.out
    simp [results, Try.f13, asAddr, hr, frV, frL, Fr.zero]
set_option maxRecDepth 100000 in
set_option maxHeartbeats 4000000 in
theorem drop_yes (i : Nat) (hi : i < p.L.length) (hu : p.L[i].used = true) (hp : p.L[i].pins = 0) : Calls Try.prog 14 #[.pointer (some ⟨pb, 0, none⟩), .int .i64 (i : Nat)] w fun e w' => e = .returned (.int .i64 0) ∧ PBox w' pb lb mb m { p with L := p.L.set i Fr.zero, low := min p.low i } ∧ Frm (Own pb lb mb) w w' := by
  have HU := Lib.hid (used_yes pb lb mb m p w h i hi hu)
  obtain ⟨x0, x1, x2, x3, x4⟩ := h.fr hi
  rw [hp] at x4
  have c1 := h.at.2.1
  have hnum := (h.ok.num _ (List.getElem_mem hi)).1
  obtain ⟨W, hM, hW⟩ := h.map
  have hwi : W p.L[i].key = some i := (hW _ _).2 ⟨p.L[i], List.getElem?_eq_getElem hi, hu, rfl⟩
  obtain ⟨w6, hrun6, hM6, hT6⟩ := (show MBox w.drew mb m W (usedN p.L) from hM.keep rfl).drop p.L[i].key hnum (by rw [hwi]; rfl) 0
  unfold keyV at hrun6
  have hF6 : Frm (fun j => j = mb) w w6 := ((Frm.refl _ w).drew).trans (Frm.of_grown hT6.grown)
  have hW6 := hW.gone i hi Fr.zero hu rfl
  have hus := usedN_put p.L i hi Fr.zero
  rw [hu] at hus
  simp only [if_true, Fr.zero] at hus
  have hne := h.ne
  have hlt := h.lt
  have hn := h.ok.n
  have hR6 := own_keep h.row (w' := w6) (fun g hg => by injection hg with hg; subst hg; exact hF6.block _ hlt.2.1 hne.2.2)
  have hC6 := (hF6.block pb hlt.1 hne.2.1).trans h.cells
  have HP := Lib.hid h
  have HM6 := Lib.hid hM6
  have HF6 := Lib.hid hF6
  have HR6 := Lib.hid hR6
  have HC6 := Lib.hid hC6
  have HW6 := Lib.hid hW6
  have HUS := Lib.hid hus
  clear h hu hM hW hwi hM6 hT6 hF6 hW6 hus hR6 hC6 hp
  generalize hfx : p.L[i] = x at *
  go_enter Try.func14, Try.ntmps14
  go_wp2_with fail
  refine HU.out.mono ?_
  rintro e w ⟨rfl, rfl⟩
  go_wp2
  refine region_ordL (fun wz => wz = w.drew) true [false, false, false, false, false, false, false, false, false, false] (by kernel_rfl) (by kernel_rfl) (by kernel_rfl) (by kernel_rfl) rfl ?_
  iterate 9 (refine ord_val (by rfl) (by intro wz hi; subst hi; go_simp; with_reducible rfl) (fun K hK => ?_); go_simp; refine hK _ ?_; clear hK K)
  refine ord_last (by rfl) ?_
  refine gets_sem ?_
  go_simp
  clear x0 x1 x2 x3 x4 c1 hrun6
  obtain ⟨x0, x1, x2, x3, x4, gg⟩ := row_fr HR6.out rfl hi
  have g0 := gg (i * 5)
  have g1 := gg (i * 5 + 1)
  have g2 := gg (i * 5 + 2)
  have g3 := gg (i * 5 + 3)
  have g4 := gg (i * 5 + 4)
  clear gg
  go_upto_region 8 with (fail)
  have hE3 : ((((w6.setCell ⟨lb, i * 5, none⟩ (.int .i64 0)).setCell ⟨lb, i * 5 + 1, none⟩ (.bool false)).setCell ⟨lb, i * 5 + 2, none⟩ (.bool false)).setCell ⟨lb, i * 5 + 3, none⟩ (.bool false)).setCell ⟨lb, i * 5 + 4, none⟩ (.int .i64 0) = put5 w6 lb i Fr.zero := rfl
  rw [hE3]
  obtain ⟨hR3, hF3⟩ := row_put5 HR6.out i hi Fr.zero
  generalize put5 w6 lb i Fr.zero = w3 at hR3 hF3 ⊢
  have hz6 := HF6.out.size
  have hC3 := (hF3.block pb (by omega) hne.1).trans HC6.out
  have HM3 := Lib.hid (HM6.out.keep (hF3.block mb (by omega) (fun e => hne.2.2 e.symm)))
  have HR3 := Lib.hid hR3
  have HF3 := Lib.hid hF3
  have HC3 := Lib.hid hC3
  have c33 := cell_of_row w3 pb 3 _ _ _ hC3
  have f33 := frozen_of_row w3 pb 3 _ _ hC3
  have hFin : ∀ v : Nat, min p.low i = v → PBox (w3.setCell ⟨pb, 3, none⟩ (.int .i64 (v : Nat))) pb lb mb m { p with L := p.L.set i Fr.zero, low := min p.low i } ∧ Frm (Own pb lb mb) w (w3.setCell ⟨pb, 3, none⟩ (.int .i64 (v : Nat))) := by
    intro v hv
    have hF4 : Frm (fun j => j = pb) w3 (w3.setCell ⟨pb, 3, none⟩ (.int .i64 (v : Nat))) := (Frm.refl (fun j => j = pb) w3).setCell pb 3 (Or.inl rfl) _
    have hc4 := heap_setCell_same w3 pb 3 _ _ (.int .i64 (v : Nat)) hC3
    have hz3 := hF3.size
    have hlen : (p.L.set i Fr.zero).length = p.L.length := List.length_set
    refine ⟨⟨?_, ?_, ⟨mset W x.key none, ?_, HW6.out⟩, hne, ⟨?_, ?_, ?_, ?_⟩⟩, ?_⟩
    · show _ = some (Obj.cells #[.slice (some ⟨lb, 0, none⟩) (p.L.set i Fr.zero).length (p.L.set i Fr.zero).length, .map (some mb), .int .i64 (p.hand : Nat), .int .i64 ((min p.low i : Nat) : Int)] _ _)
      rw [hlen, hv]
      exact hc4
    · show World.ownsRow _ 0 _ 5 (.slice (some ⟨lb, 0, none⟩) (p.L.set i Fr.zero).length (p.L.set i Fr.zero).length) (p.L.set i Fr.zero).length _
      rw [hlen]
      exact own_keep hR3 (fun g hg => by injection hg with hg; subst hg; exact hF4.block lb (by omega) (fun e => hne.1 e.symm))
    · show MBox _ mb m _ (usedN (p.L.set i Fr.zero))
      have hu := HUS.out
      rw [show usedN (p.L.set i Fr.zero) = usedN p.L - 1 from by unfold Fr.zero; simp at hu; omega]
      exact HM3.out.keep (hF4.block mb (by omega) (fun e => hne.2.1 e.symm))
    · show 1 ≤ (p.L.set i Fr.zero).length ∧ (p.L.set i Fr.zero).length ≤ 4096
      rw [hlen]; exact hn
    · show p.hand < (p.L.set i Fr.zero).length
      rw [hlen]; exact HP.out.ok.hand
    · refine ⟨?_, fun a ha => ?_⟩
      · show min p.low i ≤ (p.L.set i Fr.zero).length
        rw [hlen]; omega
      · have ha : a < min p.low i := ha
        obtain ⟨y, hy, hyu⟩ := HP.out.ok.low.2 a (by omega)
        exact ⟨y, by show (p.L.set i Fr.zero)[a]? = _; rw [List.getElem?_set, if_neg (by omega)]; exact hy, hyu⟩
    · intro y hy
      rcases List.mem_or_eq_of_mem_set hy with h6 | h6
      · exact HP.out.ok.num y h6
      · subst h6
        exact ⟨rfl, by simp [Fr.zero]⟩
    · exact (((HF6.out.mono fun j _ e => Or.inr (Or.inr e)).trans (hF3.mono fun j _ e => Or.inr (Or.inl e))).trans (hF4.mono fun j _ e => Or.inl e) : Frm (Own pb lb mb) w _)
  have HFin := Lib.hid hFin
  clear hR3 hF3 hC3 hE3 x0 x1 x2 x3 x4 g0 g1 g2 g3 g4 hFin HU
  go_wp2
  · go_ret
    exact ⟨rfl, HFin.out _ (by omega)⟩
  · go_ret
    exact ⟨rfl, HFin.out _ (by omega)⟩
set_option maxRecDepth 100000 in
set_option maxHeartbeats 1000000 in
theorem victim_any : Calls Try.prog 32 #[.pointer (some ⟨pb, 0, none⟩)] w fun e w' => ((∃ q : Nat, q < 2 * p.L.length ∧ cand p q = true ∧ (∀ r, r < q → cand p r = false) ∧ e = .returned (.tuple #[.int .i64 (((p.hand + q) % p.L.length : Nat) : Int), .bool true])) ∨ ((∀ r, r < 2 * p.L.length → cand p r = false) ∧ e = .returned (.tuple #[.int .i64 0, .bool false]))) ∧ Frm (fun _ => False) w w' := by
  have HS := Lib.hid (search_any pb lb mb m p w h)
  clear h
  go_enter Try.func32, Try.ntmps32
  go_wp2_with fail
  refine HS.out.mono ?_
  rintro e w' ⟨⟨q, h1, h2, h3, rfl⟩ | ⟨h1, rfl⟩, hF⟩
  · have HF := Lib.hid hF
    have H3 := Lib.hid h3
    clear hF h3 HS
    obtain ⟨z, hz⟩ : ∃ z, (p.hand + q) % p.L.length = z := ⟨_, rfl⟩
    rw [hz]
    go_wp2
    go_ret2
    exact ⟨Or.inl ⟨q, h1, h2, H3.out, by rw [hz]; rfl⟩, HF.out⟩
  · have HF := Lib.hid hF
    have H3 := Lib.hid h1
    clear hF h1 HS
    go_wp2
    go_ret2
    exact ⟨Or.inr ⟨H3.out, rfl⟩, HF.out⟩
end
end Go.Proofs.Ytdbaidkepngjcaa
