/- Contracts of package geom over its own Check. Conditions: the numbers fit their kinds. -/
import Derived.Test.YtlbodandidopfaaGeo
import Derived.BigGuard
namespace Go.Proofs.Ytlbodandidopfaa
open Go.ChangeShapes Go.WideShapes Go.ChangeAt Go.RowKit
set_option linter.unusedSimpArgs false
set_option linter.unusedVariables false
abbrev yes : Bool := true

set_option maxRecDepth 100000 in
set_option maxHeartbeats 4000000 in
theorem check_any (c : Cfg) (w : World) : Calls Try.prog 16 #[c.val] w fun e w' => e = .returned (.int .i64 (if checkB c = true then 0 else 1)) ∧ Below w.heap.size w w' := by
  have hn := fun w1 => numbers_any c w1
  have hs := fun w1 => segments_any c w1
  have hbx := Boxed.new w c
  have hb0 : Below w.heap.size w (w.alloc (.cells (C9 c) 23)) := (Below.refl _ _).alloc (Nat.le_refl _) _
  by_cases h : numB c = true
  · rw [h] at hn
    obtain ⟨h1, h2, h3, h4, h5, h6, h7, h8, h9⟩ := numB_true h
    by_cases hge : 16 ≤ segN c
    · have hst := fun w1 => standard_any c (by omega) (by omega) w1
      have hbl := fun w1 => blob_any c (c.page + 64) (by omega) (by omega) (by omega) (by omega) w1
      have hres : (if checkB c = true then (0 : Int) else 1) = if blobN c.sector (c.page + 64) ≤ c.segment then 0 else 1 := by
        unfold checkB
        rw [h, decide_eq_true hge]
        simp
      rw [hres]
      have HN := Lib.hid hn
      have HS := Lib.hid hs
      have HST := Lib.hid hst
      have HBL := Lib.hid hbl
      have HB := Lib.hid hbx
      clear hn hs hst hbl hbx hres h
      unfold C9 at hb0
      unfold Cfg.val at HN HS HST HBL ⊢
      generalize segN c = sg at *
      have hd : decide (sg < 16) = false := by simp; omega
      generalize blobN c.sector (c.page + 64) = bl at *
      go_enter Try.func16, Try.ntmps16
      go_wp2_with fail
      first
        | go_region_held3 (fun w' => w'.cell? ⟨w.heap.size, 0, none⟩ = some (.int .i64 c.sectors) ∧ w'.cell? ⟨w.heap.size, 1, none⟩ = some (.int .i64 c.sector) ∧ w'.cell? ⟨w.heap.size, 2, none⟩ = some (.int .i64 c.journal) ∧ w'.cell? ⟨w.heap.size, 3, none⟩ = some (.int .i64 c.segment) ∧ w'.cell? ⟨w.heap.size, 4, none⟩ = some (.int .i64 c.page) ∧ w'.cell? ⟨w.heap.size, 5, none⟩ = some (.int .i64 c.frames) ∧ w'.cell? ⟨w.heap.size, 6, none⟩ = some (.int .i64 c.procs) ∧ w'.cell? ⟨w.heap.size, 7, none⟩ = some (.int .i64 c.regions) ∧ w'.cell? ⟨w.heap.size, 8, none⟩ = some (.int .i64 c.pages)) (first | assumption | go_keep)
            (first
              | (go_at_call 69; refine (HN.out _).mono ?_; rintro e w1 ⟨rfl, hb1⟩; have hx1 : Boxed w1 w.heap.size c := Boxed.next hb1 HB.out; have hS1 := hx1.cells; have hB1 : Below w.heap.size w w1 := nextB hb1 (by first | exact hb0 | exact hb0.drew | exact belowN hb0 _))
              | (go_at_call 22; refine (HS.out _).mono ?_; rintro e w2 ⟨rfl, hb2⟩; have hx2 : Boxed w2 w.heap.size c := Boxed.next hb2 hx1; have hS2 := hx2.cells; have hB2 : Below w.heap.size w w2 := nextB hb2 (by first | exact hB1 | exact hB1.drew | exact belowN hB1 _))
              | (go_at_call 70; refine (HST.out _).mono ?_; rintro e w3 ⟨rfl, hb3⟩; have hx3 : Boxed w3 w.heap.size c := Boxed.next hb3 hx2; have hS3 := hx3.cells; have hB3 : Below w.heap.size w w3 := nextB hb3 (by first | exact hB2 | exact hB2.drew | exact belowN hB2 _))
              | (go_at_call 26; refine (HBL.out _).mono ?_; rintro e w4 ⟨rfl, hb4⟩; have hx4 : Boxed w4 w.heap.size c := Boxed.next hb4 hx3; have hS4 := hx4.cells; have hB4 : Below w.heap.size w w4 := nextB hb4 (by first | exact hB3 | exact hB3.drew | exact belowN hB3 _)))
        | fail
      all_goals by_cases hc : bl ≤ c.segment
      all_goals go_wp2
      all_goals go_ret
      · exact ⟨rfl, hB4⟩
      · exact ⟨rfl, hB4⟩
    · have hres : (if checkB c = true then (0 : Int) else 1) = 1 := by
        unfold checkB
        rw [decide_eq_false hge]
        simp
      rw [hres]
      have HN := Lib.hid hn
      have HS := Lib.hid hs
      have HB := Lib.hid hbx
      clear hn hs hbx hres h
      unfold C9 at hb0
      unfold Cfg.val at HN HS ⊢
      generalize segN c = sg at *
      have hd : decide (sg < 16) = yes := by simp; omega
      go_enter Try.func16, Try.ntmps16
      go_wp2_with fail
      first
        | go_region_with (first
              | (go_at_call 69; refine (HN.out _).mono ?_; rintro e w1 ⟨rfl, hb1⟩; have hx1 : Boxed w1 w.heap.size c := Boxed.next hb1 HB.out; have hS1 := hx1.cells; have hB1 : Below w.heap.size w w1 := nextB hb1 (by first | exact hb0 | exact hb0.drew | exact belowN hb0 _); obtain ⟨k10, k11, k12, k13, k14, k15, k16, k17, k18⟩ := hS1)
              | (go_at_call 22; refine (HS.out _).mono ?_; rintro e w2 ⟨rfl, hb2⟩; have hx2 : Boxed w2 w.heap.size c := Boxed.next hb2 hx1; have hS2 := hx2.cells; have hB2 : Below w.heap.size w w2 := nextB hb2 (by first | exact hB1 | exact hB1.drew | exact belowN hB1 _); obtain ⟨k20, k21, k22, k23, k24, k25, k26, k27, k28⟩ := hS2))
        | fail
      all_goals go_wp2
      all_goals go_ret
      all_goals exact ⟨rfl, hB2⟩
  · have hres : (if checkB c = true then (0 : Int) else 1) = 1 := by
      unfold checkB
      rw [show numB c = false from by simpa using h]
      simp
    rw [hres]
    rw [show numB c = false from by simpa using h] at hn
    have HN := Lib.hid hn
    have HB := Lib.hid hbx
    clear hn hs hbx hres h
    unfold C9 at hb0
    unfold Cfg.val at HN ⊢
    go_enter Try.func16, Try.ntmps16
    go_wp2_with fail
    first
      | go_region_with (first
            | (go_at_call 69; refine (HN.out _).mono ?_; rintro e w1 ⟨rfl, hb1⟩; have hx1 : Boxed w1 w.heap.size c := Boxed.next hb1 HB.out; have hS1 := hx1.cells; have hB1 : Below w.heap.size w w1 := nextB hb1 (by first | exact hb0 | exact hb0.drew | exact belowN hb0 _); obtain ⟨k10, k11, k12, k13, k14, k15, k16, k17, k18⟩ := hS1))
      | fail
    all_goals go_wp2
    all_goals go_ret
    all_goals exact ⟨rfl, hB1⟩
end Go.Proofs.Ytlbodandidopfaa
