/- An act on both pools of frames. Conditions: none. -/
import Derived.Test.YtdbaidkepngjcaaFry
namespace Go.Proofs.Ytdbaidkepngjcaa
open Go.ChangeShapes Go.WideShapes Go.ChangeAt Go.RowKit Go.Maps
set_option linter.unusedSimpArgs false
set_option linter.unusedVariables false
def StepP (pb lb mb qb rb c n q : Nat) (w : World) (e : Ending) (w' : World) : Prop :=
  e = .returned (.bool true) ∧ FI pb lb mb qb rb c n (q + 1) w' ∧ Frm (Own5 pb lb mb qb rb) w w'
theorem FI.more {pb lb mb qb rb c n q q' : Nat} {w : World} (h : FI pb lb mb qb rb c n q w) (hq : q ≤ q') : FI pb lb mb qb rb c n q' w := by
  obtain ⟨m, p, h1, h2⟩ := h
  exact ⟨m, p, by omega, h2⟩
set_option maxRecDepth 100000 in
set_option maxHeartbeats 4000000 in
theorem step_any (pb lb mb qb rb c n q : Nat) (w : World) (hA : Apt pb lb mb qb rb) (h : FI pb lb mb qb rb c n q w) (hq : q < 1000000) (op key fr : Int) (wr : Bool) (hk : (Lit.int .i64 key).wf = true) (hf : (Lit.int .i64 fr).wf = true) :
    Calls Try.prog 10 #[.pointer (some ⟨pb, 0, none⟩), .pointer (some ⟨qb, 0, none⟩), .agg #[.int .i64 op, .int .i64 key, .int .i64 fr, .bool wr]] w (StepP pb lb mb qb rb c n q w) := by
  have hbw : Frm (fun _ => False) w (w.alloc (.cells #[.int .i64 op, .int .i64 key, .int .i64 fr, .bool wr] 33)) := (Frm.refl _ w).alloc _
  have hx := heap_alloc_new w (.cells #[.int .i64 op, .int .i64 key, .int .i64 fr, .bool wr] 33)
  have hFW := h.next hbw
  have hlt := h.lt
  have hsz : (w.alloc (.cells #[.int .i64 op, .int .i64 key, .int .i64 fr, .bool wr] 33)).heap.size = w.heap.size + 1 := by simp
  have HP := Lib.hid (show ∀ e w', e = .returned (.bool true) → FI pb lb mb qb rb c n (q + 1) w' → Frm (Own5 pb lb mb qb rb) w w' → StepP pb lb mb qb rb c n q w e w' from fun e w' h1 h2 h3 => ⟨h1, h2, h3⟩)
  go_enter Try.func10, Try.ntmps10
  go_upto_region 1 with (fail)
  generalize w.alloc (.cells #[.int .i64 op, .int .i64 key, .int .i64 fr, .bool wr] 33) = W at hbw hx hFW hsz ⊢
  have y0 : W.cell? ⟨w.heap.size, 0, none⟩ = some (.int .i64 op) := cell_of_row W w.heap.size 0 _ _ _ hx
  have y1 : W.cell? ⟨w.heap.size, 1, none⟩ = some (.int .i64 key) := cell_of_row W w.heap.size 1 _ _ _ hx
  have y2 : W.cell? ⟨w.heap.size, 2, none⟩ = some (.int .i64 fr) := cell_of_row W w.heap.size 2 _ _ _ hx
  have y3 : W.cell? ⟨w.heap.size, 3, none⟩ = some (.bool wr) := cell_of_row W w.heap.size 3 _ _ _ hx
  have hcell : ∀ w2 (hF : Frm (Own5 pb lb mb qb rb) W w2), w2.cell? ⟨w.heap.size, 1, none⟩ = some (.int .i64 key) ∧ w2.cell? ⟨w.heap.size, 2, none⟩ = some (.int .i64 fr) ∧ w2.cell? ⟨w.heap.size, 3, none⟩ = some (.bool wr) := fun w2 hF => by
    have hb2 := hF.block w.heap.size (by omega) (fun e => by have := hlt _ e; omega)
    exact ⟨(World.cell?_of_block (a := ⟨w.heap.size, 1, none⟩) hb2).trans y1, (World.cell?_of_block (a := ⟨w.heap.size, 2, none⟩) hb2).trans y2, (World.cell?_of_block (a := ⟨w.heap.size, 3, none⟩) hb2).trans y3⟩
  have HCELL := Lib.hid hcell
  have HFW := Lib.hid hFW
  have HB0 := Lib.hid hbw
  have HLT := Lib.hid hlt
  clear hx hFW hbw hcell h hlt
  by_cases p1 : op = 1
  · subst p1
    obtain ⟨f, x, g, cd, Mid, hT1, hT2⟩ := ftake hA HFW.out hq key hk
    obtain ⟨xk, xu, xr, xd, xp⟩ := x
    rw [show frV ⟨xk, xu, xr, xd, xp⟩ = .agg #[.int .i64 xk, .bool xu, .bool xr, .bool xd, .int .i64 (xp : Nat)] from rfl] at hT1 hT2
    have HT1 := Lib.hid hT1
    have HT2 := Lib.hid hT2
    clear hT1 hT2
    go_wp2_with fail
    refine HT1.out.mono ?_
    rintro e w2 ⟨rfl, hM2, hF2⟩
    have hz2 := hF2.size
    have hFa : Frm (fun _ => False) w2 (w2.alloc (.cells #[.int .i64 xk, .bool xu, .bool xr, .bool xd, .int .i64 (xp : Nat)] 38)) := (Frm.refl _ w2).alloc _
    have hxa := heap_alloc_new w2 (.cells #[.int .i64 xk, .bool xu, .bool xr, .bool xd, .int .i64 (xp : Nat)] 38)
    have hsa : (w2.alloc (.cells #[.int .i64 xk, .bool xu, .bool xr, .bool xd, .int .i64 (xp : Nat)] 38)).heap.size = w2.heap.size + 1 := by simp
    have T2 := Lib.hid (HT2.out w2 _ hM2 hFa)
    obtain ⟨z1, z2, z3⟩ := HCELL.out _ (hF2.trans (hFa.mono fun j _ e => e.elim))
    have HFa := Lib.hid (hF2.trans (hFa.mono fun j _ e => e.elim) : Frm (Own5 pb lb mb qb rb) W _)
    clear HT1 HT2 hM2 hF2 hFa
    go_upto_region 4 with (fail)
    generalize w2.alloc (.cells #[.int .i64 xk, .bool xu, .bool xr, .bool xd, .int .i64 (xp : Nat)] 38) = w3 at hxa T2 z1 z2 z3 HFa hsa ⊢
    go_wp2_with fail
    refine T2.out.mono ?_
    rintro e w4 ⟨rfl, hI4, hF4⟩
    have hz4 := hF4.size
    have hxa4 := (hF4.block w2.heap.size (by omega) (fun e => by have := HLT.out _ e; omega)).trans hxa
    have hFb : Frm (fun _ => False) w4 (w4.alloc (.cells #[.int .i64 xk, .bool xu, .bool xr, .bool xd, .int .i64 (xp : Nat)] 59)) := (Frm.refl _ w4).alloc _
    have hxb := heap_alloc_new w4 (.cells #[.int .i64 xk, .bool xu, .bool xr, .bool xd, .int .i64 (xp : Nat)] 59)
    have hxa5 := (hFb.block w2.heap.size (by omega) id).trans hxa4
    have HI5 := Lib.hid (hI4.next hFb)
    have HF5 := Lib.hid (((HB0.out.mono fun j _ e => e.elim).trans HFa.out).trans (hF4.trans (hFb.mono fun j _ e => e.elim)) : Frm (Own5 pb lb mb qb rb) w _)
    clear hI4 hF4 hFb T2 HFa hxa hxa4 z1 z2 z3 y0 y1 y2 y3
    go_upto_region 5 with (fail)
    generalize w4.alloc (.cells #[.int .i64 xk, .bool xu, .bool xr, .bool xd, .int .i64 (xp : Nat)] 59) = w5 at hxb hxa5 HI5 HF5 ⊢
    have HS := Lib.hid (same_any ⟨xk, xu, xr, xd, xp⟩ w5)
    rw [show frV ⟨xk, xu, xr, xd, xp⟩ = .agg #[.int .i64 xk, .bool xu, .bool xr, .bool xd, .int .i64 (xp : Nat)] from rfl] at HS
    have a0 : w5.cell? ⟨w2.heap.size, 0, none⟩ = some (.int .i64 xk) := cell_of_row w5 w2.heap.size 0 _ _ _ hxa5
    have a1 : w5.cell? ⟨w2.heap.size, 1, none⟩ = some (.bool xu) := cell_of_row w5 w2.heap.size 1 _ _ _ hxa5
    have a2 : w5.cell? ⟨w2.heap.size, 2, none⟩ = some (.bool xr) := cell_of_row w5 w2.heap.size 2 _ _ _ hxa5
    have a3 : w5.cell? ⟨w2.heap.size, 3, none⟩ = some (.bool xd) := cell_of_row w5 w2.heap.size 3 _ _ _ hxa5
    have a4 : w5.cell? ⟨w2.heap.size, 4, none⟩ = some (.int .i64 (xp : Nat)) := cell_of_row w5 w2.heap.size 4 _ _ _ hxa5
    have b0 : w5.cell? ⟨w4.heap.size, 0, none⟩ = some (.int .i64 xk) := cell_of_row w5 w4.heap.size 0 _ _ _ hxb
    have b1 : w5.cell? ⟨w4.heap.size, 1, none⟩ = some (.bool xu) := cell_of_row w5 w4.heap.size 1 _ _ _ hxb
    have b2 : w5.cell? ⟨w4.heap.size, 2, none⟩ = some (.bool xr) := cell_of_row w5 w4.heap.size 2 _ _ _ hxb
    have b3 : w5.cell? ⟨w4.heap.size, 3, none⟩ = some (.bool xd) := cell_of_row w5 w4.heap.size 3 _ _ _ hxb
    have b4 : w5.cell? ⟨w4.heap.size, 4, none⟩ = some (.int .i64 (xp : Nat)) := cell_of_row w5 w4.heap.size 4 _ _ _ hxb
    clear hxa5 hxb
    go_wp2_with fail
    refine HS.out.mono ?_
    rintro e w6 ⟨rfl, hF6⟩
    have HI6 := Lib.hid (HI5.out.next hF6)
    have HF6 := Lib.hid (HF5.out.trans (hF6.mono fun j _ e => e.elim))
    clear hF6
    go_wp2
    go_ret
    exact HP.out _ _ rfl HI6.out HF6.out
  have t1 : (op == 1) = false := by rw [beq_eq_false_iff_ne]; exact p1
  by_cases p2 : op = 2
  · subst p2
    obtain ⟨u, Mid, hT1, hT2⟩ := ftouch hA (HFW.out.next ((Frm.refl _ W).drew)) fr hf wr
    have HT1 := Lib.hid hT1
    have HT2 := Lib.hid hT2
    clear hT1 hT2
    go_wp2_with fail
    go_region_law (first
      | (refine step_wanted _ rfl ?_; go_simp; go_at_call 15; refine Calls.mono HT1.out ?_; rintro e w2 ⟨rfl, hM2, hF2⟩; obtain ⟨z1, z2, z3⟩ := HCELL.out w2 (((Frm.refl _ W).drew).trans hF2))
      | (refine step_wanted _ rfl ?_; go_simp; go_at_call 23; refine Calls.mono (HT2.out w2 _ hM2 (Frm.refl _ _)) ?_; rintro e w3 ⟨rfl, hI3, hF3⟩)
      | fail)
    all_goals
      have HI3 := Lib.hid hI3
      have HF3 := Lib.hid (((HB0.out.mono fun j _ e => e.elim).trans ((Frm.refl _ W).drew)).trans (hF2.trans hF3) : Frm (Own5 pb lb mb qb rb) w _)
      clear hI3 hF2 hF3 hM2
      go_wp2
      go_ret
      exact HP.out _ _ rfl (HI3.out.more (by omega)) HF3.out
  have t2 : (op == 2) = false := by rw [beq_eq_false_iff_ne]; exact p2
  by_cases p3 : op = 3
  · subst p3
    obtain ⟨u, Mid, hT1, hT2⟩ := fclean hA (HFW.out.next ((Frm.refl _ W).drew)) fr hf 
    have HT1 := Lib.hid hT1
    have HT2 := Lib.hid hT2
    clear hT1 hT2
    go_wp2_with fail
    go_region_law (first
      | (refine step_wanted _ rfl ?_; go_simp; go_at_call 24; refine Calls.mono HT1.out ?_; rintro e w2 ⟨rfl, hM2, hF2⟩; obtain ⟨z1, z2, z3⟩ := HCELL.out w2 (((Frm.refl _ W).drew).trans hF2))
      | (refine step_wanted _ rfl ?_; go_simp; go_at_call 25; refine Calls.mono (HT2.out w2 _ hM2 (Frm.refl _ _)) ?_; rintro e w3 ⟨rfl, hI3, hF3⟩)
      | fail)
    all_goals
      have HI3 := Lib.hid hI3
      have HF3 := Lib.hid (((HB0.out.mono fun j _ e => e.elim).trans ((Frm.refl _ W).drew)).trans (hF2.trans hF3) : Frm (Own5 pb lb mb qb rb) w _)
      clear hI3 hF2 hF3 hM2
      go_wp2
      go_ret
      exact HP.out _ _ rfl (HI3.out.more (by omega)) HF3.out
  have t3 : (op == 3) = false := by rw [beq_eq_false_iff_ne]; exact p3
  by_cases p4 : op = 4
  · subst p4
    obtain ⟨u, Mid, hT1, hT2⟩ := fpin hA (HFW.out.next ((Frm.refl _ W).drew)) fr hf 
    have HT1 := Lib.hid hT1
    have HT2 := Lib.hid hT2
    clear hT1 hT2
    go_wp2_with fail
    go_region_law (first
      | (refine step_wanted _ rfl ?_; go_simp; go_at_call 16; refine Calls.mono HT1.out ?_; rintro e w2 ⟨rfl, hM2, hF2⟩; obtain ⟨z1, z2, z3⟩ := HCELL.out w2 (((Frm.refl _ W).drew).trans hF2))
      | (refine step_wanted _ rfl ?_; go_simp; go_at_call 26; refine Calls.mono (HT2.out w2 _ hM2 (Frm.refl _ _)) ?_; rintro e w3 ⟨rfl, hI3, hF3⟩)
      | fail)
    all_goals
      have HI3 := Lib.hid hI3
      have HF3 := Lib.hid (((HB0.out.mono fun j _ e => e.elim).trans ((Frm.refl _ W).drew)).trans (hF2.trans hF3) : Frm (Own5 pb lb mb qb rb) w _)
      clear hI3 hF2 hF3 hM2
      go_wp2
      go_ret
      exact HP.out _ _ rfl (HI3.out.more (by omega)) HF3.out
  have t4 : (op == 4) = false := by rw [beq_eq_false_iff_ne]; exact p4
  by_cases p5 : op = 5
  · subst p5
    obtain ⟨u, Mid, hT1, hT2⟩ := funpin hA (HFW.out.next ((Frm.refl _ W).drew)) fr hf 
    have HT1 := Lib.hid hT1
    have HT2 := Lib.hid hT2
    clear hT1 hT2
    go_wp2_with fail
    go_region_law (first
      | (refine step_wanted _ rfl ?_; go_simp; go_at_call 17; refine Calls.mono HT1.out ?_; rintro e w2 ⟨rfl, hM2, hF2⟩; obtain ⟨z1, z2, z3⟩ := HCELL.out w2 (((Frm.refl _ W).drew).trans hF2))
      | (refine step_wanted _ rfl ?_; go_simp; go_at_call 27; refine Calls.mono (HT2.out w2 _ hM2 (Frm.refl _ _)) ?_; rintro e w3 ⟨rfl, hI3, hF3⟩)
      | fail)
    all_goals
      have HI3 := Lib.hid hI3
      have HF3 := Lib.hid (((HB0.out.mono fun j _ e => e.elim).trans ((Frm.refl _ W).drew)).trans (hF2.trans hF3) : Frm (Own5 pb lb mb qb rb) w _)
      clear hI3 hF2 hF3 hM2
      go_wp2
      go_ret
      exact HP.out _ _ rfl (HI3.out.more (by omega)) HF3.out
  have t5 : (op == 5) = false := by rw [beq_eq_false_iff_ne]; exact p5
  by_cases p6 : op = 6
  · subst p6
    obtain ⟨u, Mid, hT1, hT2⟩ := fdrop hA (HFW.out.next ((Frm.refl _ W).drew)) fr hf 
    have HT1 := Lib.hid hT1
    have HT2 := Lib.hid hT2
    clear hT1 hT2
    go_wp2_with fail
    go_region_law (first
      | (refine step_wanted _ rfl ?_; go_simp; go_at_call 14; refine Calls.mono HT1.out ?_; rintro e w2 ⟨rfl, hM2, hF2⟩; obtain ⟨z1, z2, z3⟩ := HCELL.out w2 (((Frm.refl _ W).drew).trans hF2))
      | (refine step_wanted _ rfl ?_; go_simp; go_at_call 28; refine Calls.mono (HT2.out w2 _ hM2 (Frm.refl _ _)) ?_; rintro e w3 ⟨rfl, hI3, hF3⟩)
      | fail)
    all_goals
      have HI3 := Lib.hid hI3
      have HF3 := Lib.hid (((HB0.out.mono fun j _ e => e.elim).trans ((Frm.refl _ W).drew)).trans (hF2.trans hF3) : Frm (Own5 pb lb mb qb rb) w _)
      clear hI3 hF2 hF3 hM2
      go_wp2
      go_ret
      exact HP.out _ _ rfl (HI3.out.more (by omega)) HF3.out
  have t6 : (op == 6) = false := by rw [beq_eq_false_iff_ne]; exact p6
  go_wp2
  go_ret
  exact HP.out _ _ rfl (HFW.out.more (by omega)) (HB0.out.mono fun j _ e => e.elim)
end Go.Proofs.Ytdbaidkepngjcaa
