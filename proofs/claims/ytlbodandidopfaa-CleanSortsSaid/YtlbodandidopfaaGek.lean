/- Contracts of package geom: K, Journal, Segment, Of. Conditions: the numbers fit their kinds. -/
import Derived.Test.YtlbodandidopfaaChk
namespace Go.Proofs.Ytlbodandidopfaa
open Go.ChangeShapes Go.WideShapes Go.ChangeAt Go.RowKit
set_option linter.unusedSimpArgs false
set_option linter.unusedVariables false
theorem checkB_true {c : Cfg} (h : checkB c = true) : numB c = true ∧ 16 ≤ segN c ∧ blobN c.sector (c.page + 64) ≤ c.segment := by
  unfold checkB at h
  simp only [Bool.and_eq_true, decide_eq_true_eq] at h
  exact ⟨h.1.1, h.1.2, h.2⟩
def kN (c : Cfg) : Int := if checkB c = true then (segN c - 8) * (c.segment / blobN c.sector (c.page + 64)) / 24 else 0
theorem journal_any (c : Cfg) (w : World) : Calls Try.prog 20 #[c.val] w fun e w' => e = .returned (.tuple #[.int .i64 2, .int .i64 c.journal]) ∧ Below w.heap.size w w' := by
  have hbx := Boxed.new w c
  have hb0 : Below w.heap.size w (w.alloc (.cells (C9 c) 23)) := (Below.refl _ _).alloc (Nat.le_refl _) _
  unfold C9 at hb0
  unfold Cfg.val
  clear hbx
  go_enter Try.func20, Try.ntmps20
  go_wp2
  go_quiet (fail)
  go_wp2
  go_ret2
  exact ⟨rfl, belowN hb0 _⟩
set_option maxRecDepth 100000 in
set_option maxHeartbeats 4000000 in
theorem k_any (c : Cfg) (w : World) : Calls Try.prog 18 #[c.val] w fun e w' => e = .returned (.int .i64 (kN c)) ∧ Below w.heap.size w w' := by
  have hck := fun w1 => check_any c w1
  have hbx := Boxed.new w c
  have hb0 : Below w.heap.size w (w.alloc (.cells (C9 c) 23)) := (Below.refl _ _).alloc (Nat.le_refl _) _
  by_cases h : checkB c = true
  · obtain ⟨hnum, hge, hle⟩ := checkB_true h
    obtain ⟨h1, h2, h3, h4, h5, h6, h7, h8, h9⟩ := numB_true hnum
    have hst := fun w1 => standard_any c (by omega) (by omega) w1
    have hbl := fun w1 => blob_any c (c.page + 64) (by omega) (by omega) (by omega) (by omega) w1
    have hs := fun w1 => segments_any c w1
    have hsr := segN_rng c
    have hbp := blobN_pos (s := c.sector) (b := c.page + 64) (by omega)
    have hres : kN c = (segN c - 8) * (c.segment / blobN c.sector (c.page + 64)) / 24 := by unfold kN; rw [if_pos h]
    rw [hres]
    rw [if_pos h] at hck
    have HCK := Lib.hid hck
    have HS := Lib.hid hs
    have HST := Lib.hid hst
    have HBL := Lib.hid hbl
    have HB := Lib.hid hbx
    clear hck hs hst hbl hbx hres h hnum
    unfold C9 at hb0
    unfold Cfg.val at HCK HS HST HBL ⊢
    generalize segN c = sg at *
    generalize blobN c.sector (c.page + 64) = bl at *
    have hne : bl ≠ 0 := by omega
    have t0 : (bl == 0) = false := by rw [beq_eq_false_iff_ne]; omega
    have he0 : 0 ≤ c.segment / bl := Int.ediv_nonneg (by omega) (by omega)
    have he1 : c.segment / bl ≤ c.segment := Int.ediv_le_self _ (by omega)
    have hp0 : 0 ≤ (sg - 8) * (c.segment / bl) := Int.mul_nonneg (by omega) he0
    have hp1 : (sg - 8) * (c.segment / bl) ≤ 65536 * 4096 := Int.mul_le_mul (by omega) (by omega) he0 (by omega)
    go_enter Try.func18, Try.ntmps18
    go_wp2_with fail
    refine (HCK.out _).mono ?_
    rintro e w1 ⟨rfl, hb1⟩
    have hx1 : Boxed w1 w.heap.size c := Boxed.next hb1 HB.out
    have hS1 := hx1.cells
    have hB1 : Below w.heap.size w w1 := nextB hb1 (by first | exact hb0 | exact hb0.drew | exact belowN hb0 _)
    obtain ⟨k10, k11, k12, k13, k14, k15, k16, k17, k18⟩ := hS1
    go_wp2_with fail
    first
      | go_region_held3 (fun w' => w'.cell? ⟨w.heap.size, 0, none⟩ = some (.int .i64 c.sectors) ∧ w'.cell? ⟨w.heap.size, 1, none⟩ = some (.int .i64 c.sector) ∧ w'.cell? ⟨w.heap.size, 2, none⟩ = some (.int .i64 c.journal) ∧ w'.cell? ⟨w.heap.size, 3, none⟩ = some (.int .i64 c.segment) ∧ w'.cell? ⟨w.heap.size, 4, none⟩ = some (.int .i64 c.page) ∧ w'.cell? ⟨w.heap.size, 5, none⟩ = some (.int .i64 c.frames) ∧ w'.cell? ⟨w.heap.size, 6, none⟩ = some (.int .i64 c.procs) ∧ w'.cell? ⟨w.heap.size, 7, none⟩ = some (.int .i64 c.regions) ∧ w'.cell? ⟨w.heap.size, 8, none⟩ = some (.int .i64 c.pages)) (first | assumption | go_keep)
          (first
            | (go_at_call 70; refine (HST.out _).mono ?_; rintro e w2 ⟨rfl, hb2⟩; have hx2 : Boxed w2 w.heap.size c := Boxed.next hb2 hx1; have hS2 := hx2.cells; have hB2 : Below w.heap.size w w2 := nextB hb2 (by first | exact hB1 | exact hB1.drew | exact belowN hB1 _))
            | (go_at_call 26; refine (HBL.out _).mono ?_; rintro e w3 ⟨rfl, hb3⟩; have hx3 : Boxed w3 w.heap.size c := Boxed.next hb3 hx2; have hS3 := hx3.cells; have hB3 : Below w.heap.size w w3 := nextB hb3 (by first | exact hB2 | exact hB2.drew | exact belowN hB2 _)))
      | fail
    all_goals
      go_wp2_with fail
      refine (HS.out _).mono ?_
      rintro e w4 ⟨rfl, hb4⟩
      have hB4 : Below w.heap.size w w4 := nextB hb4 (by first | exact hB3 | exact hB3.drew | exact belowN hB3 _)
      go_wp2
      go_ret
      exact ⟨rfl, hB4⟩
  · have hres : kN c = 0 := by unfold kN; rw [if_neg h]
    rw [hres]
    rw [if_neg h] at hck
    have HCK := Lib.hid hck
    have HB := Lib.hid hbx
    clear hck hbx hres h
    unfold C9 at hb0
    unfold Cfg.val at HCK ⊢
    go_enter Try.func18, Try.ntmps18
    go_wp2_with fail
    refine (HCK.out _).mono ?_
    rintro e w1 ⟨rfl, hb1⟩
    have hx1 : Boxed w1 w.heap.size c := Boxed.next hb1 HB.out
    have hS1 := hx1.cells
    have hB1 : Below w.heap.size w w1 := nextB hb1 (by first | exact hb0 | exact hb0.drew | exact belowN hb0 _)
    obtain ⟨k10, k11, k12, k13, k14, k15, k16, k17, k18⟩ := hS1
    go_wp2
    go_ret
    exact ⟨rfl, hB1⟩
end Go.Proofs.Ytlbodandidopfaa
