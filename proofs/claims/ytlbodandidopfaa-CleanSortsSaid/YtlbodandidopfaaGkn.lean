/- The sixth chapter's example holds: the laws' own check of it answers true. Conditions: none. -/
import Derived.Test.YtlbodandidopfaaGes
namespace Go.Proofs.Ytlbodandidopfaa
open Go.ChangeShapes Go.WideShapes Go.ChangeAt Go.RowKit
set_option linter.unusedSimpArgs false
set_option linter.unusedVariables false
def cfg0 : Cfg := ⟨1000, 512, 8, 30, 512, 8, 4, 4, 100⟩
theorem kn_check (w : World) : Calls Try.prog 16 #[cfg0.val] w fun e w' => e = .returned (.int .i64 0) ∧ Below w.heap.size w w' := by
  have h := check_any cfg0 w
  rw [if_pos (by decide)] at h
  exact h
theorem kn_segs (w : World) : Calls Try.prog 22 #[cfg0.val] w fun e w' => e = .returned (.int .i64 33) ∧ Below w.heap.size w w' := by
  have h := segments_any cfg0 w
  rw [show segN cfg0 = 33 from by decide] at h
  exact h
theorem kn_blob (w : World) : Calls Try.prog 26 #[cfg0.val, .int .i64 576] w fun e w' => e = .returned (.int .i64 2) ∧ Below w.heap.size w w' := by
  have h := blob_any cfg0 576 (by decide) (by decide) (by decide) (by decide) w
  rw [show blobN cfg0.sector 576 = 2 from by decide] at h
  exact h
theorem kn_k (w : World) : Calls Try.prog 18 #[cfg0.val] w fun e w' => e = .returned (.int .i64 15) ∧ Below w.heap.size w w' := by
  have h := k_any cfg0 w
  rw [show kN cfg0 = 15 from by decide] at h
  exact h
set_option maxRecDepth 100000 in
set_option maxHeartbeats 4000000 in
theorem known_any (w : World) : Calls Try.prog 13 #[] w fun e w' => e = .returned (.bool true) ∧ Below w.heap.size w w' := by
  have hck := kn_check
  have hsg := kn_segs
  have hbl := kn_blob
  have hk := kn_k
  have HCK := Lib.hid hck
  have HSG := Lib.hid hsg
  have HBL := Lib.hid hbl
  have HK := Lib.hid hk
  clear hck hsg hbl hk
  unfold Cfg.val cfg0 at HCK HSG HBL HK
  have hbx := Boxed.new w cfg0
  have hb0 : Below w.heap.size w (w.alloc (.cells (C9 cfg0) 23)) := (Below.refl _ _).alloc (Nat.le_refl _) _
  have HB := Lib.hid hbx
  clear hbx
  unfold C9 cfg0 at hb0
  go_enter Try.func13, Try.ntmps13
  go_wp2_with fail
  refine (HCK.out _).mono ?_
  rintro e w1 ⟨rfl, hb1⟩
  have hx1 : Boxed w1 w.heap.size cfg0 := Boxed.next hb1 HB.out
  have hS1 := hx1.cells
  simp only [cfg0] at hS1
  obtain ⟨k10, k11, k12, k13, k14, k15, k16, k17, k18⟩ := hS1
  have hB1 : Below w.heap.size w w1 := nextB hb1 (by first | exact hb0 | exact hb0.drew | exact belowN hb0 _)
  go_wp2_with fail
  refine (HSG.out _).mono ?_
  rintro e w2 ⟨rfl, hb2⟩
  have hx2 : Boxed w2 w.heap.size cfg0 := Boxed.next hb2 hx1
  have hS2 := hx2.cells
  simp only [cfg0] at hS2
  obtain ⟨k20, k21, k22, k23, k24, k25, k26, k27, k28⟩ := hS2
  have hB2 : Below w.heap.size w w2 := nextB hb2 hB1
  go_wp2_with fail
  refine (HBL.out _).mono ?_
  rintro e w3 ⟨rfl, hb3⟩
  have hx3 : Boxed w3 w.heap.size cfg0 := Boxed.next hb3 hx2
  have hS3 := hx3.cells
  simp only [cfg0] at hS3
  obtain ⟨k30, k31, k32, k33, k34, k35, k36, k37, k38⟩ := hS3
  have hB3 : Below w.heap.size w w3 := nextB hb3 hB2
  go_wp2_with fail
  refine (HK.out _).mono ?_
  rintro e w4 ⟨rfl, hb4⟩
  have hx4 : Boxed w4 w.heap.size cfg0 := Boxed.next hb4 hx3
  have hS4 := hx4.cells
  simp only [cfg0] at hS4
  obtain ⟨k40, k41, k42, k43, k44, k45, k46, k47, k48⟩ := hS4
  have hB4 : Below w.heap.size w w4 := nextB hb4 hB3
  go_wp2
  go_ret
  exact ⟨rfl, hB4⟩
end Go.Proofs.Ytlbodandidopfaa
