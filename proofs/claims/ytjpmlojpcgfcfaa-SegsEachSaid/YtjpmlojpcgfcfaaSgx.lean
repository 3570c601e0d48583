/- An act on both tables of segments. Conditions: none. -/
import Derived.Test.YtjpmlojpcgfcfaaSgv
namespace Go.Proofs.Ytjpmlojpcgfcfaa
open Go.ChangeShapes Go.WideShapes Go.ChangeAt Go.RowKit Go.Maps
set_option linter.unusedSimpArgs false
set_option linter.unusedVariables false
def StepP (tb b rb gb N M : Nat) (w : World) (e : Ending) (w' : World) : Prop :=
  e = .returned (.bool true) ∧ (∃ f', BTab tb b rb gb N (M + N + 1) w' f') ∧ Frm (fun j => j = tb ∨ j = b ∨ j = gb) w w'
theorem okR {f : Int → Ent} {M N tb b rb gb : Nat} {w W w2 w3 : World} {f' : Int → Ent} (hM : M ≤ 0 + M) (hw : Below w.heap.size w W) (hF2 : Frm (fun j => j = tb ∨ j = b) W w2) (hF3 : Frm (fun j => j = gb) w2 w3) (hT : TT tb b N M w2 f') (hR : RTab w3 rb gb N f') (hg : Good f') (ha : tb ≠ rb ∧ tb ≠ gb ∧ b ≠ rb ∧ b ≠ gb) :
    (∃ f', BTab tb b rb gb N M w3 f') ∧ Frm (fun j => j = tb ∨ j = b ∨ j = gb) w w3 :=
  ⟨⟨f', hT.frm hF3 ha.2.1 ha.2.2.2, hR, hg, ha⟩, ((Frm.of_below hw).trans (hF2.mono fun j _ h => by omega)).trans (hF3.mono fun j _ h => by omega)⟩
set_option maxRecDepth 100000 in
set_option maxHeartbeats 4000000 in
theorem step_any (tb b rb gb N M : Nat) (f : Int → Ent) (w : World) (h : BTab tb b rb gb N M w f) (hM : M + N < 900000) (a0 a1 a2 a3 : Int) (hk : (Lit.int .i64 a1).wf = true) :
    Calls Try.prog 12 #[.pointer (some ⟨tb, 0, none⟩), .pointer (some ⟨rb, 0, none⟩), .agg #[.int .i64 a0, .int .i64 a1, .int .i64 a2, .int .i64 a3]] w (StepP tb b rb gb N M w) := by
  have hbw : Below w.heap.size w (w.alloc (.cells #[.int .i64 a0, .int .i64 a1, .int .i64 a2, .int .i64 a3] 36)) := (Below.refl _ w).alloc (Nat.le_refl _) _
  have hx := heap_alloc_new w (.cells #[.int .i64 a0, .int .i64 a1, .int .i64 a2, .int .i64 a3] 36)
  have hBW := h.next hbw
  have hlt := h.tab.lt
  have hrlt := h.ref.lt
  have hap := h.apart
  have hsz : (w.alloc (.cells #[.int .i64 a0, .int .i64 a1, .int .i64 a2, .int .i64 a3] 36)).heap.size = w.heap.size + 1 := by simp
  have hP : ∀ e w', e = .returned (.bool true) → ((∃ f', BTab tb b rb gb N (M + N + 1) w' f') ∧ Frm (fun j => j = tb ∨ j = b ∨ j = gb) w w') → StepP tb b rb gb N M w e w' := fun e w' h1 h2 => ⟨h1, h2⟩
  have HP := Lib.hid hP
  go_enter Try.func12, Try.ntmps12
  go_upto_region 1 with (fail)
  clear hP
  generalize w.alloc (.cells #[.int .i64 a0, .int .i64 a1, .int .i64 a2, .int .i64 a3] 36) = W at hbw hx hBW hsz ⊢
  have y0 : W.cell? ⟨w.heap.size, 0, none⟩ = some (.int .i64 a0) := cell_of_row W w.heap.size 0 _ _ _ hx
  have y1 : W.cell? ⟨w.heap.size, 1, none⟩ = some (.int .i64 a1) := cell_of_row W w.heap.size 1 _ _ _ hx
  have y2 : W.cell? ⟨w.heap.size, 2, none⟩ = some (.int .i64 a2) := cell_of_row W w.heap.size 2 _ _ _ hx
  have y3 : W.cell? ⟨w.heap.size, 3, none⟩ = some (.int .i64 a3) := cell_of_row W w.heap.size 3 _ _ _ hx
  have hcell : ∀ w2 (hF : Frm (fun j => j = tb ∨ j = b) W w2), w2.cell? ⟨w.heap.size, 1, none⟩ = some (.int .i64 a1) ∧ w2.cell? ⟨w.heap.size, 2, none⟩ = some (.int .i64 a2) ∧ w2.cell? ⟨w.heap.size, 3, none⟩ = some (.int .i64 a3) := fun w2 hF => by
    have hb2 := hF.block w.heap.size (by omega) (by omega)
    exact ⟨(World.cell?_of_block (a := ⟨w.heap.size, 1, none⟩) hb2).trans y1, (World.cell?_of_block (a := ⟨w.heap.size, 2, none⟩) hb2).trans y2, (World.cell?_of_block (a := ⟨w.heap.size, 3, none⟩) hb2).trans y3⟩
  have HCELL := Lib.hid hcell
  have HBW := Lib.hid hBW
  have HB0 := Lib.hid hbw
  clear hx hBW hbw hcell h
  by_cases p1 : a0 = 1
  · subst p1
    have TK := Lib.hid (ttake HBW.out.tab (by omega))
    go_wp2_with fail
    refine TK.out.mono ?_
    rintro e w2 (⟨rfl, hz, rfl⟩ | ⟨k, hkN, hk0, hmin, rfl, hT2, hF2⟩)
    · have RT := Lib.hid (rtake_full rb gb N f W HBW.out.ref hz)
      clear hz
      go_wp2_with fail
      refine RT.out.mono ?_
      rintro e w3 ⟨rfl, rfl⟩
      go_wp2
      go_ret
      exact HP.out _ _ rfl ⟨⟨f, HBW.out.more (by omega)⟩, Frm.of_below HB0.out⟩
    · have hR2 := HBW.out.ref.frm hF2 (by omega) (by omega)
      have RT := Lib.hid (rtake_at rb gb N f w2 hR2 k hkN hk0 ((HBW.out.good k).1 hk0) hmin)
      have HT2 := Lib.hid hT2
      have HF2 := Lib.hid hF2
      have HG := Lib.hid (HBW.out.good.put k ⟨1, 0, 0⟩ ⟨fun _ => rfl, by decide, by decide⟩)
      clear hmin hk0 hT2 hF2 hR2
      go_wp2_with fail
      refine RT.out.mono ?_
      rintro e w3 ⟨rfl, hR3, hF3⟩
      have HQ := Lib.hid (okR (f := f) (Nat.le_add_left _ _) HB0.out HF2.out hF3 HT2.out hR3 HG.out hap)
      clear hR3 hF3
      go_wp2
      go_ret
      obtain ⟨⟨f', hf'⟩, hF⟩ := HQ.out
      exact HP.out _ _ rfl ⟨⟨f', hf'.more (by omega)⟩, hF⟩
  have t1 : (a0 == 1) = false := by rw [beq_eq_false_iff_ne]; exact p1
  by_cases p2 : a0 = 2
  · subst p2
    clear p1 t1
    have TF := Lib.hid (tfill HBW.out.drew.tab (by omega) a1 hk)
    have RF := Lib.hid (fun w2 hR => rfill_any rb gb N f w2 hR a1)
    have HG := Lib.hid (HBW.out.good.turn N a1 1 2 (by omega) 0)
    go_wp2_with fail
    go_region_law (first
      | (refine step_wanted _ rfl ?_; go_simp; go_at_call 21; refine Calls.mono TF.out ?_; rintro e w2 ⟨rfl, hT2, hF2⟩; have hR2 := HBW.out.drew.ref.frm hF2 (by omega) (by omega); obtain ⟨z1, z2, z3⟩ := HCELL.out w2 ((Frm.refl (fun j => j = tb ∨ j = b) W).drew.trans hF2))
      | (refine step_wanted _ rfl ?_; go_simp; go_at_call 29; refine Calls.mono (RF.out _ hR2) ?_; rintro e w3 ⟨rfl, hR3, hF3⟩)
      | fail)
    all_goals
      have HQ := Lib.hid (okR (f := f) (Nat.le_add_left _ _) HB0.out ((Frm.refl (fun j => j = tb ∨ j = b) W).drew.trans hF2) hF3 hT2 hR3 HG.out hap)
      clear hT2 hF2 hR2 hR3 hF3
      generalize (turnR N f a1 1 2 0).1 = u
      go_wp2
      go_ret
      obtain ⟨⟨f', hf'⟩, hF⟩ := HQ.out
      exact HP.out _ _ rfl ⟨⟨f', hf'.more (by omega)⟩, hF⟩
  have t2 : (a0 == 2) = false := by rw [beq_eq_false_iff_ne]; exact p2
  by_cases p3 : a0 = 3
  · subst p3
    clear p1 p2 t1 t2
    have TF := Lib.hid (thold HBW.out.drew.tab (by omega) a1 a2 hk)
    have RF := Lib.hid (fun w2 hR => rhold_any rb gb N f w2 hR a1 a2)
    have HG := Lib.hid (HBW.out.good.turn N a1 2 3 (by omega) a2)
    go_wp2_with fail
    go_region_law (first
      | (refine step_wanted _ rfl ?_; go_simp; go_at_call 22; refine Calls.mono TF.out ?_; rintro e w2 ⟨rfl, hT2, hF2⟩; have hR2 := HBW.out.drew.ref.frm hF2 (by omega) (by omega); obtain ⟨z1, z2, z3⟩ := HCELL.out w2 ((Frm.refl (fun j => j = tb ∨ j = b) W).drew.trans hF2))
      | (refine step_wanted _ rfl ?_; go_simp; go_at_call 30; refine Calls.mono (RF.out _ hR2) ?_; rintro e w3 ⟨rfl, hR3, hF3⟩)
      | fail)
    all_goals
      have HQ := Lib.hid (okR (f := f) (Nat.le_add_left _ _) HB0.out ((Frm.refl (fun j => j = tb ∨ j = b) W).drew.trans hF2) hF3 hT2 hR3 HG.out hap)
      clear hT2 hF2 hR2 hR3 hF3
      generalize (turnR N f a1 2 3 a2).1 = u
      go_wp2
      go_ret
      obtain ⟨⟨f', hf'⟩, hF⟩ := HQ.out
      exact HP.out _ _ rfl ⟨⟨f', hf'.more (by omega)⟩, hF⟩
  have t3 : (a0 == 3) = false := by rw [beq_eq_false_iff_ne]; exact p3
  by_cases p4 : a0 = 4
  · subst p4
    clear p1 p2 p3 t1 t2 t3
    have TK := Lib.hid (trel HBW.out.tab (by omega) a2)
    go_wp2_with fail
    refine TK.out.mono ?_
    rintro e w2 ⟨v, rfl, ho, hT2, hF2⟩
    have hR2 := HBW.out.ref.frm hF2 (by omega) (by omega)
    have RR := Lib.hid (rrelease_any rb gb N f w2 hR2 a2)
    have hlen := relN_len f a2 N
    have HG := Lib.hid (HBW.out.good.rel (relN f a2 N))
    obtain ⟨A, c, rfl, hd1, hd2, _⟩ := RdV.own ho
    have z2 := (HCELL.out w2 hF2).2.1
    have HT2 := Lib.hid hT2
    have HF2 := Lib.hid hF2
    have HO := Lib.hid ho
    clear hT2 hF2 hR2 ho
    go_wp2_with fail
    refine RR.out.mono ?_
    rintro e w3 ⟨v3, rfl, ho3, hR3, hF3⟩
    have hF3' := hF3
    obtain ⟨A3, c3, rfl, hd3, hd4, _⟩ := RdV.own ho3
    have HO2 := Lib.hid (own_frm HO.out hF3 (by omega))
    have HO3 := Lib.hid ho3
    have HQ := Lib.hid (okR (f := f) (Nat.le_add_left _ _) HB0.out HF2.out hF3 HT2.out hR3 HG.out hap)
    have hmN := HBW.out.tab.most
    clear hR3 hF3 hF3' ho3
    have hil : (intsV (relN f a2 N)).length = (relN f a2 N).length := by simp [intsV]
    generalize relN f a2 N = L at *
    rw [hil] at hd1 hd3 HO2 HO3 ⊢
    clear hil HO
    go_wp2
    go_loopw [13] (fun i wx => ∃ j : Nat, j ≤ L.length ∧ i = .int .i64 j ∧ Frm (fun _ => False) w3 wx) (fun i wx => L.length - (intOf i).toNat)
    case atStart => exact ⟨0, by omega, rfl, Frm.refl _ _⟩
    case round =>
      obtain ⟨j, hj, rfl, hF⟩ := hrel
      by_cases hjl : j < L.length
      · obtain ⟨b0, off, rfl, hbB, hc1⟩ := (RdV.own (own_frm HO2.out hF (fun _ h => h.elim))).get (j := j) (u := .int .i64 (L[j] : Nat)) (by unfold intsV; rw [List.getElem?_map, List.getElem?_eq_getElem hjl]; rfl)
        obtain ⟨b1, off1, rfl, hbB1, hc2⟩ := (RdV.own (own_frm HO3.out hF (fun _ h => h.elim))).get (j := j) (u := .int .i64 (L[j] : Nat)) (by unfold intsV; rw [List.getElem?_map, List.getElem?_eq_getElem hjl]; rfl)
        have HF := Lib.hid hF
        clear hF
        obtain ⟨r, hr⟩ : ∃ r, L[j] = r := ⟨_, rfl⟩
        rw [hr] at hc1 hc2
        clear hr
        go_wp2_with fail
        go_region_law (fail)
        all_goals go_wp2_with fail
        all_goals refine ⟨⟨j + 1, by omega, by go_num, HF.out.drew⟩, ?_⟩
        all_goals (simp [intOf]; omega)
      · obtain rfl : j = L.length := by omega
        have HF := Lib.hid hF
        clear hF
        go_wp2
        go_ret
        obtain ⟨⟨f', hf'⟩, hFF⟩ := HQ.out
        exact HP.out _ _ rfl ⟨⟨f', (hf'.more (by omega)).frm HF.out (fun _ _ => id)⟩, hFF.trans (HF.out.mono fun _ _ h => h.elim)⟩
  have t4 : (a0 == 4) = false := by rw [beq_eq_false_iff_ne]; exact p4
  by_cases p5 : a0 = 5
  · subst p5
    clear p1 p2 p3 p4 t1 t2 t3 t4
    have TF := Lib.hid (tadd HBW.out.drew.tab (by omega) a1 a3 hk HBW.out.good)
    have RF := Lib.hid (fun w2 hR => radd_any rb gb N f w2 hR a1 a3 (HBW.out.good a1).2)
    have HG := Lib.hid (HBW.out.good.add N a1 a3)
    go_wp2_with fail
    go_region_law (first
      | (refine step_wanted _ rfl ?_; go_simp; go_at_call 24; refine Calls.mono TF.out ?_; rintro e w2 ⟨rfl, hT2, hF2⟩; have hR2 := HBW.out.drew.ref.frm hF2 (by omega) (by omega); obtain ⟨z1, z2, z3⟩ := HCELL.out w2 ((Frm.refl (fun j => j = tb ∨ j = b) W).drew.trans hF2))
      | (refine step_wanted _ rfl ?_; go_simp; go_at_call 32; refine Calls.mono (RF.out _ hR2) ?_; rintro e w3 ⟨rfl, hR3, hF3⟩)
      | fail)
    all_goals
      have HQ := Lib.hid (okR (f := f) (Nat.le_add_left _ _) HB0.out ((Frm.refl (fun j => j = tb ∨ j = b) W).drew.trans hF2) hF3 hT2 hR3 HG.out hap)
      clear hT2 hF2 hR2 hR3 hF3
      generalize (addR N f a1 a3).1 = u
      go_wp2
      go_ret
      obtain ⟨⟨f', hf'⟩, hF⟩ := HQ.out
      exact HP.out _ _ rfl ⟨⟨f', hf'.more (by omega)⟩, hF⟩
  have t5 : (a0 == 5) = false := by rw [beq_eq_false_iff_ne]; exact p5
  clear p1 p2 p3 p4 p5
  go_wp2
  go_ret
  exact HP.out _ _ rfl ⟨⟨f, HBW.out.more (by omega)⟩, Frm.of_below HB0.out⟩
end Go.Proofs.Ytjpmlojpcgfcfaa
