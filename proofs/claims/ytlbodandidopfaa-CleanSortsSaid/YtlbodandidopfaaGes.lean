/- Contracts of package geom: Segment, Of. Conditions: the numbers fit their kinds. -/
import Derived.Test.YtlbodandidopfaaGek
namespace Go.Proofs.Ytlbodandidopfaa
open Go.ChangeShapes Go.WideShapes Go.ChangeAt Go.RowKit
set_option linter.unusedSimpArgs false
set_option linter.unusedVariables false

set_option maxRecDepth 100000 in
set_option maxHeartbeats 4000000 in
theorem segment_yes (c : Cfg) (k : Int) (h : checkB c = true) (k0 : 0 ≤ k) (k1 : k < segN c) (w : World) : Calls Try.prog 14 #[c.val, .int .i64 k] w fun e w' => e = .returned (.tuple #[.int .i64 (2 + c.journal + k * c.segment), .int .i64 c.segment, .int .i64 0]) ∧ Below w.heap.size w w' := by
  have hck := fun w1 => check_any c w1
  have hs := fun w1 => segments_any c w1
  have hbx := Boxed.new w c
  have hb0 : Below w.heap.size w (w.alloc (.cells (C9 c) 23)) := (Below.refl _ _).alloc (Nat.le_refl _) _
  obtain ⟨hnum, hge, hle⟩ := checkB_true h
  obtain ⟨h1, h2, h3, h4, h5, h6, h7, h8, h9⟩ := numB_true hnum
  have hsr := segN_rng c
  rw [if_pos h] at hck
  have HCK := Lib.hid hck
  have HS := Lib.hid hs
  have HB := Lib.hid hbx
  clear hck hs hbx h hnum
  unfold C9 at hb0
  unfold Cfg.val at HCK HS ⊢
  generalize segN c = sg at *
  have hp0 : 0 ≤ k * c.segment := Int.mul_nonneg (by omega) (by omega)
  have hp1 : k * c.segment ≤ 65536 * 4096 := Int.mul_le_mul (by omega) (by omega) (by omega) (by omega)
  go_enter Try.func14, Try.ntmps14
  go_wp2_with fail
  refine (HCK.out _).mono ?_
  rintro e w1 ⟨rfl, hb1⟩
  have hx1 : Boxed w1 w.heap.size c := Boxed.next hb1 HB.out
  have hS1 := hx1.cells
  have hB1 : Below w.heap.size w w1 := nextB hb1 (by first | exact hb0 | exact hb0.drew | exact belowN hb0 _)
  obtain ⟨k10, k11, k12, k13, k14, k15, k16, k17, k18⟩ := hS1
  go_wp2_with fail
  refine (HS.out _).mono ?_
  rintro e w2 ⟨rfl, hb2⟩
  have hx2 : Boxed w2 w.heap.size c := Boxed.next hb2 hx1
  have hS2 := hx2.cells
  have hB2 : Below w.heap.size w w2 := nextB hb2 (by first | exact hB1 | exact hB1.drew | exact belowN hB1 _)
  obtain ⟨k20, k21, k22, k23, k24, k25, k26, k27, k28⟩ := hS2
  go_wp2
  go_quiet (fail)
  go_wp2
  go_ret3
  exact ⟨rfl, belowN hB2 _⟩

set_option maxRecDepth 100000 in
set_option maxHeartbeats 4000000 in
theorem segment_no (c : Cfg) (k : Int) (h : ¬ (checkB c = true ∧ 0 ≤ k ∧ k < segN c)) (w : World) : Calls Try.prog 14 #[c.val, .int .i64 k] w fun e w' => e = .returned (.tuple #[.int .i64 0, .int .i64 0, .int .i64 1]) ∧ Below w.heap.size w w' := by
  have hck := fun w1 => check_any c w1
  have hs := fun w1 => segments_any c w1
  have hbx := Boxed.new w c
  have hb0 : Below w.heap.size w (w.alloc (.cells (C9 c) 23)) := (Below.refl _ _).alloc (Nat.le_refl _) _
  by_cases hc : checkB c = true
  · rw [if_pos hc] at hck
    have hk : k < 0 ∨ segN c ≤ k := by
      rcases Int.lt_or_le k 0 with h1 | h1
      · exact Or.inl h1
      · exact Or.inr (by rcases Int.lt_or_le k (segN c) with h2 | h2
                         · exact absurd ⟨hc, h1, h2⟩ h
                         · exact h2)
    have HCK := Lib.hid hck
    have HS := Lib.hid hs
    have HB := Lib.hid hbx
    clear hck hs hbx h hc
    unfold C9 at hb0
    unfold Cfg.val at HCK HS ⊢
    generalize segN c = sg at *
    by_cases hn : k < 0
    · clear hk
      go_enter Try.func14, Try.ntmps14
      go_wp2_with fail
      refine (HCK.out _).mono ?_
      rintro e w1 ⟨rfl, hb1⟩
      have hx1 : Boxed w1 w.heap.size c := Boxed.next hb1 HB.out
      have hS1 := hx1.cells
      have hB1 : Below w.heap.size w w1 := nextB hb1 (by first | exact hb0 | exact hb0.drew | exact belowN hb0 _)
      obtain ⟨k10, k11, k12, k13, k14, k15, k16, k17, k18⟩ := hS1
      go_wp2
      go_ret3
      exact ⟨rfl, hB1⟩
    · have hk2 : sg ≤ k := by omega
      clear hk
      go_enter Try.func14, Try.ntmps14
      go_wp2_with fail
      refine (HCK.out _).mono ?_
      rintro e w1 ⟨rfl, hb1⟩
      have hx1 : Boxed w1 w.heap.size c := Boxed.next hb1 HB.out
      have hS1 := hx1.cells
      have hB1 : Below w.heap.size w w1 := nextB hb1 (by first | exact hb0 | exact hb0.drew | exact belowN hb0 _)
      obtain ⟨k10, k11, k12, k13, k14, k15, k16, k17, k18⟩ := hS1
      go_wp2_with fail
      refine (HS.out _).mono ?_
      rintro e w2 ⟨rfl, hb2⟩
      have hx2 : Boxed w2 w.heap.size c := Boxed.next hb2 hx1
      have hS2 := hx2.cells
      have hB2 : Below w.heap.size w w2 := nextB hb2 (by first | exact hB1 | exact hB1.drew | exact belowN hB1 _)
      obtain ⟨k20, k21, k22, k23, k24, k25, k26, k27, k28⟩ := hS2
      go_wp2
      go_ret3
      exact ⟨rfl, hB2⟩
  · rw [if_neg hc] at hck
    have HCK := Lib.hid hck
    have HB := Lib.hid hbx
    clear hck hs hbx h hc
    unfold C9 at hb0
    unfold Cfg.val at HCK ⊢
    go_enter Try.func14, Try.ntmps14
    go_wp2_with fail
    refine (HCK.out _).mono ?_
    rintro e w1 ⟨rfl, hb1⟩
    have hx1 : Boxed w1 w.heap.size c := Boxed.next hb1 HB.out
    have hS1 := hx1.cells
    have hB1 : Below w.heap.size w w1 := nextB hb1 (by first | exact hb0 | exact hb0.drew | exact belowN hb0 _)
    obtain ⟨k10, k11, k12, k13, k14, k15, k16, k17, k18⟩ := hS1
    go_wp2
    go_ret3
    exact ⟨rfl, hB1⟩
end Go.Proofs.Ytlbodandidopfaa
