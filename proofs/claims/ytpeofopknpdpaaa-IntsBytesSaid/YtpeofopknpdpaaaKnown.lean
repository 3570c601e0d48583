/- The first chapter's examples hold: the laws' own check of them answers true. Conditions: none. -/
import Derived.Test.YtpeofopknpdpaaaByt
namespace Go.Proofs.Ytpeofopknpdpaaa
open Go.ChangeShapes Go.WideShapes Go.ChangeAt Go.RowKit
set_option linter.unusedSimpArgs false
set_option linter.unusedVariables false

theorem known_up (w : World) : Calls Try.prog 23 #[.int .i64 5, .int .i64 4] w fun e w' => e = .returned (.tuple #[.int .i64 8, .bool true]) ∧ w = w' := by
  have h := up_any 5 4 (by omega) (by omega) (by omega) (by omega) w
  rw [show Pu.upV 5 4 = 8 from by decide, show Pu.upB 5 4 = true from by decide] at h
  exact h
theorem known_zig (w : World) : Calls Try.prog 11 #[.int .i64 (-1)] w fun e w' => e = .returned (.int .u64 1) ∧ w = w' := by
  have h := zig_any (-1) (by omega) (by omega) w
  rw [show Pu.zig (-1) = 1 from by decide] at h
  exact h
theorem known_log (w : World) : Calls Try.prog 15 #[.int .u64 5] w fun e w' => e = .returned (.int .i64 3) ∧ w = w' := by
  have h := log_any 5 (by omega) w
  rw [show Pu.nbits 5 = 3 from by simp [Pu.nbits_pos, Pu.nbits_zero]] at h
  exact h
theorem known_field (w : World) (B : Nat) (vb : Value) (hr : RdV w B vb (bv [15, 240])) :
    Calls Try.prog 25 #[vb, .int .i64 4, .int .i64 8] w fun e w' => e = .returned (.tuple #[.int .u64 0, .bool true]) ∧ w = w' := by
  have h := field_any vb [15, 240] 4 8 (by omega) (by omega) (by omega) (by omega) (by simp) w B hr
  rw [show Pu.fieldV [15, 240] 4 8 = 0 from by decide, show Pu.fieldB [15, 240] 4 8 = true from by decide] at h
  exact h
theorem known_var (w : World) : Calls Try.prog 35 #[.slice none 0 0, .int .u64 300] w (TellsB w [172, 2]) := by
  have h := var_any (.slice none 0 0) [] 300 (by omega) (by simp) w 0 (by omega) (RdV.nil_ w 0)
  rw [show ([] : List UInt8) ++ Pu.varL 300 = [172, 2] from by decide] at h
  exact h

set_option maxRecDepth 100000 in
set_option maxHeartbeats 1000000 in
theorem known_any (w : World) : Calls Try.prog 10 #[] w fun e w' => e = .returned (.bool true) ∧ Below w.heap.size w w' := by
  go_enter Try.func10, Try.ntmps10
  go_wp2_with fail
  refine (known_up _).mono ?_
  rintro e w' ⟨rfl, rfl⟩
  go_wp2_with fail
  refine (known_field _ _ _ (RdV.lit w [.int .u8 15, .int .u8 240] 5 (by simp))).mono ?_
  rintro e w' ⟨rfl, rfl⟩
  go_wp2_with fail
  refine (known_zig _).mono ?_
  rintro e w' ⟨rfl, rfl⟩
  go_wp2_with fail
  refine (known_var _).mono ?_
  rintro e w1 ⟨r, rfl, hrd, hbel⟩
  have hcv := run_conv_rd (P := Try.prog) w1 29 9 5 Try.underlying29 Try.underlying5 Try.underlying9 r _ _ hrd
  go_wp2_with fail
  refine (known_log _).mono ?_
  rintro e w' ⟨rfl, rfl⟩
  go_wp2_with fail
  go_ret
  exact ⟨rfl, ((Below.refl _ _).alloc (Nat.le_refl _) _).trans (hbel.mono (by simp))⟩
end Go.Proofs.Ytpeofopknpdpaaa
