/- Contracts of package geom: Of. Conditions: the numbers fit their kinds. -/
import Derived.Test.YtlbodandidopfaaGes
import Derived.Test.YtlbodandidopfaaInv
namespace Go.Proofs.Ytlbodandidopfaa
open Go.ChangeShapes Go.WideShapes Go.ChangeAt Go.RowKit
set_option linter.unusedSimpArgs false
set_option linter.unusedVariables false
def ofN (c : Cfg) (s : Int) : Int := if s < 2 + c.journal then -1 else if segN c ≤ (s - (2 + c.journal)) / c.segment then -1 else (s - (2 + c.journal)) / c.segment

set_option maxRecDepth 100000 in
set_option maxHeartbeats 4000000 in
theorem of_any (c : Cfg) (s : Int) (hnum : numB c = true) (s0 : -9223372036854775808 ≤ s) (s1 : s ≤ 9223372036854775807) (w : World) : Calls Try.prog 24 #[c.val, .int .i64 s] w fun e w' => e = .returned (.int .i64 (ofN c s)) ∧ Below w.heap.size w w' := by
  have hn := fun w1 => numbers_any c w1
  have hs := fun w1 => segments_any c w1
  have hbx := Boxed.new w c
  have hb0 : Below w.heap.size w (w.alloc (.cells (C9 c) 23)) := (Below.refl _ _).alloc (Nat.le_refl _) _
  obtain ⟨h1, h2, h3, h4, h5, h6, h7, h8, h9⟩ := numB_true hnum
  have hsr := segN_rng c
  rw [hnum] at hn
  have HN := Lib.hid hn
  have HS := Lib.hid hs
  have HB := Lib.hid hbx
  have hne : c.segment ≠ 0 := by omega
  have t0 : (c.segment == 0) = false := by rw [beq_eq_false_iff_ne]; omega
  clear hn hs hbx hnum
  unfold C9 at hb0
  by_cases hlt : s < 2 + c.journal
  · have hres : ofN c s = -1 := by unfold ofN; rw [if_pos hlt]
    rw [hres]
    clear hres
    unfold Cfg.val at HN ⊢
    have hd : decide (s < 2 + c.journal) = yes := by simp; omega
    go_enter Try.func24, Try.ntmps24
    go_wp2_with fail
    refine region_inv [none, some (DVal (.bool true)), none, none, none, none, none, none, none, none, none, none, none, none, none, none, none, none, none] (by kernel_rfl) (by kernel_rfl) ⟨DVal.stable _, trivial⟩ (by kernel_rfl) ?_
    (refine inv_val (by rfl) (by intro w hg hl; obtain ⟨k0, k1, k2, k3, k4, k5, k6, k7, k8⟩ := (Boxed.next hg HB.out).cells; clear hl; go_simp; with_reducible rfl) (fun K hK => ?_); go_simp; refine hK _ ?_; clear hK K)
    refine inv_is (by rfl) (by rfl) (by
        intro w hg hl
        clear hl
        refine gets_sem ?_
        go_simp
        refine (HN.out _).mono ?_
        rintro e w5 ⟨rfl, hb5⟩
        exact ⟨_, rfl, rfl, hb5⟩) (fun K hK => ?_)
    go_simp; refine hK _ ?_; clear hK K
    iterate 7 (refine inv_val (by rfl) (by intro w hg hl; clear hl; go_simp; with_reducible rfl) (fun K hK => ?_); go_simp; refine hK _ ?_; clear hK K)
    (refine inv_not (by rfl) (fun K hK => ?_); go_simp; refine hK _ ?_; clear hK K)
    (refine inv_not (by rfl) (fun K hK => ?_); go_simp; refine hK _ ?_; clear hK K)
    (refine inv_not (by rfl) (fun K hK => ?_); go_simp; refine hK _ ?_; clear hK K)
    (refine inv_not (by rfl) (fun K hK => ?_); go_simp; refine hK _ ?_; clear hK K)
    (refine inv_not (by rfl) (fun K hK => ?_); go_simp; refine hK _ ?_; clear hK K)
    (refine inv_not (by rfl) (fun K hK => ?_); go_simp; refine hK _ ?_; clear hK K)
    (refine inv_not (by rfl) (fun K hK => ?_); go_simp; refine hK _ ?_; clear hK K)
    (refine inv_not (by rfl) (fun K hK => ?_); go_simp; refine hK _ ?_; clear hK K)
    (refine inv_not (by rfl) (fun K hK => ?_); go_simp; refine hK _ ?_; clear hK K)
    (refine inv_val (by rfl) (by intro w hg hl; clear hl; go_simp; with_reducible rfl) (fun K hK => ?_); go_simp; refine hK _ ?_; clear hK K)
    intro w7 hg hh
    clear hh
    have hB7 : Below w.heap.size w w7 := nextB hg hb0
    go_wp2
    go_ret
    exact ⟨rfl, hB7⟩
  · have hq0 : 0 ≤ (s - (2 + c.journal)) / c.segment := Int.ediv_nonneg (by omega) (by omega)
    have hq1 : (s - (2 + c.journal)) / c.segment ≤ s - (2 + c.journal) := Int.ediv_le_self _ (by omega)
    have hres : ofN c s = if segN c ≤ (s - (2 + c.journal)) / c.segment then -1 else (s - (2 + c.journal)) / c.segment := by unfold ofN; rw [if_neg hlt]
    rw [hres]
    clear hres
    unfold Cfg.val at HN HS ⊢
    generalize segN c = sg at *
    have hd : decide (s < 2 + c.journal) = false := by simp; omega
    go_enter Try.func24, Try.ntmps24
    go_wp2_with fail
    refine region_inv [none, some (DVal (.bool true)), none, none, none, none, none, none, none, none, none, none, none, none, none, none, some (DVal (.int .i64 sg)), none, none] (by kernel_rfl) (by kernel_rfl) ⟨DVal.stable _, DVal.stable _, trivial⟩ (by kernel_rfl) ?_
    (refine inv_val (by rfl) (by intro w hg hl; obtain ⟨k0, k1, k2, k3, k4, k5, k6, k7, k8⟩ := (Boxed.next hg HB.out).cells; clear hl; go_simp; with_reducible rfl) (fun K hK => ?_); go_simp; refine hK _ ?_; clear hK K)
    refine inv_is (by rfl) (by rfl) (by
        intro w hg hl
        clear hl
        refine gets_sem ?_
        go_simp
        refine (HN.out _).mono ?_
        rintro e w5 ⟨rfl, hb5⟩
        exact ⟨_, rfl, rfl, hb5⟩) (fun K hK => ?_)
    go_simp; refine hK _ ?_; clear hK K
    iterate 9 (refine inv_val (by rfl) (by intro w hg hl; clear hl; go_simp; with_reducible rfl) (fun K hK => ?_); go_simp; refine hK _ ?_; clear hK K)
    (refine inv_val (by rfl) (by intro w hg hl; have e1 : IntKind.i64.wrap (s - (2 + c.journal)) = s - (2 + c.journal) := IntWalk.i64_in _ (by omega); clear hl; go_simp; with_reducible rfl) (fun K hK => ?_); go_simp; refine hK _ ?_; clear hK K)
    (refine inv_val (by rfl) (by intro w hg hl; clear hl; go_simp; with_reducible rfl) (fun K hK => ?_); go_simp; refine hK _ ?_; clear hK K)
    (refine inv_val (by rfl) (by intro w hg hl; obtain ⟨k0, k1, k2, k3, k4, k5, k6, k7, k8⟩ := (Boxed.next hg HB.out).cells; clear hl; go_simp; with_reducible rfl) (fun K hK => ?_); go_simp; refine hK _ ?_; clear hK K)
    (refine inv_val (by rfl) (by intro w hg hl; have e2 : (s - (2 + c.journal)).tdiv c.segment = (s - (2 + c.journal)) / c.segment := Int.tdiv_eq_ediv_of_nonneg (by omega); have e3 : IntKind.i64.wrap ((s - (2 + c.journal)) / c.segment) = (s - (2 + c.journal)) / c.segment := IntWalk.i64_in _ (by omega); clear hl; go_simp; with_reducible rfl) (fun K hK => ?_); go_simp; refine hK _ ?_; clear hK K)
    (refine inv_val (by rfl) (by intro w hg hl; obtain ⟨k0, k1, k2, k3, k4, k5, k6, k7, k8⟩ := (Boxed.next hg HB.out).cells; clear hl; go_simp; with_reducible rfl) (fun K hK => ?_); go_simp; refine hK _ ?_; clear hK K)
    refine inv_is (by rfl) (by rfl) (by
        intro w hg hl
        clear hl
        refine gets_sem ?_
        go_simp
        refine (HS.out _).mono ?_
        rintro e w5 ⟨rfl, hb5⟩
        exact ⟨_, rfl, rfl, hb5⟩) (fun K hK => ?_)
    go_simp; refine hK _ ?_; clear hK K
    iterate 2 (refine inv_val (by rfl) (by intro w hg hl; clear hl; go_simp; with_reducible rfl) (fun K hK => ?_); go_simp; refine hK _ ?_; clear hK K)
    intro w7 hg hh
    clear hh
    have hB7 : Below w.heap.size w w7 := nextB hg hb0
    obtain ⟨k0, k1, k2, k3, k4, k5, k6, k7, k8⟩ := (Boxed.next hg HB.out).cells
    by_cases hcc : sg ≤ (s - (2 + c.journal)) / c.segment
    all_goals go_wp2
    all_goals go_ret
    all_goals first | exact ⟨rfl, hB7⟩ | exact ⟨ret_intG (by simp [hcc]), hB7⟩
end Go.Proofs.Ytlbodandidopfaa
