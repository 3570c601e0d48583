/- Contracts of package geom and of the document's own geometry. Conditions: the numbers fit their kinds. -/
import Derived.Test.YtlbodandidopfaaRows
import Derived.WalkKit
import Derived.ProofKit
import Derived.OpenShut
import Derived.WalkLawsBesides
import Derived.Lib.Hide
import Derived.Deep.QuietTactic
import Derived.BigQuiet
import Derived.Lib.SmallJoins
import Derived.Deep.RegionHeld3
import Derived.Deep.RegionWith
import Derived.Deep.DrawnRows
namespace Go.Proofs.Ytlbodandidopfaa
open Go.ChangeShapes Go.WideShapes Go.ChangeAt Go.RowKit
set_option linter.unusedSimpArgs false
set_option linter.unusedVariables false

/-- a shape's nine numbers -/
structure Cfg where
  sectors : Int
  sector : Int
  journal : Int
  segment : Int
  page : Int
  frames : Int
  procs : Int
  regions : Int
  pages : Int
def Cfg.val (c : Cfg) : Value := .agg #[.int .i64 c.sectors, .int .i64 c.sector, .int .i64 c.journal, .int .i64 c.segment, .int .i64 c.page, .int .i64 c.frames, .int .i64 c.procs, .int .i64 c.regions, .int .i64 c.pages]
def fits (z : Int) : Prop := -9223372036854775808 ≤ z ∧ z ≤ 9223372036854775807
structure Cfg.Fits (c : Cfg) : Prop where
  f1 : fits c.sectors
  f2 : fits c.sector
  f3 : fits c.journal
  f4 : fits c.segment
  f5 : fits c.page
  f6 : fits c.frames
  f7 : fits c.procs
  f8 : fits c.regions
  f9 : fits c.pages
theorem within_yes (v lo hi : Int) (h1 : lo ≤ v) (h2 : v ≤ hi) (w : World) : Calls Try.prog 89 #[.int .i64 v, .int .i64 lo, .int .i64 hi] w fun e w' => e = .returned (.bool true) ∧ w = w' := by
  go_enter Try.func89, Try.ntmps89
  go_wp2
  go_ret
  exact ⟨rfl, rfl⟩
theorem within_no (v lo hi : Int) (h : ¬ (lo ≤ v ∧ v ≤ hi)) (w : World) : Calls Try.prog 89 #[.int .i64 v, .int .i64 lo, .int .i64 hi] w fun e w' => e = .returned (.bool false) ∧ w = w' := by
  by_cases h1 : lo ≤ v
  · have h2 : ¬ v ≤ hi := fun h2 => h ⟨h1, h2⟩
    clear h
    go_enter Try.func89, Try.ntmps89
    go_wp2
    go_ret
    exact ⟨rfl, rfl⟩
  · clear h
    go_enter Try.func89, Try.ntmps89
    go_wp2
    go_ret
    exact ⟨rfl, rfl⟩
theorem rin_yes (v lo hi : Int) (h1 : lo ≤ v) (h2 : v ≤ hi) (w : World) : Calls Try.prog 90 #[.int .i64 v, .int .i64 lo, .int .i64 hi] w fun e w' => e = .returned (.bool true) ∧ w = w' := by
  go_enter Try.func90, Try.ntmps90
  go_wp2
  go_ret
  exact ⟨rfl, rfl⟩
theorem rin_no (v lo hi : Int) (h : ¬ (lo ≤ v ∧ v ≤ hi)) (w : World) : Calls Try.prog 90 #[.int .i64 v, .int .i64 lo, .int .i64 hi] w fun e w' => e = .returned (.bool false) ∧ w = w' := by
  by_cases h1 : lo ≤ v
  · have h2 : ¬ v ≤ hi := fun h2 => h ⟨h1, h2⟩
    clear h
    go_enter Try.func90, Try.ntmps90
    go_wp2
    go_ret
    exact ⟨rfl, rfl⟩
  · clear h
    go_enter Try.func90, Try.ntmps90
    go_wp2
    go_ret
    exact ⟨rfl, rfl⟩
def numB (c : Cfg) : Bool := decide (1 ≤ c.sectors ∧ c.sectors ≤ 65536) && decide (64 ≤ c.sector ∧ c.sector ≤ 4096) && decide (16 ≤ c.page ∧ c.page ≤ 4096) && decide (4 ≤ c.journal ∧ c.journal ≤ 4096) && decide (2 ≤ c.segment ∧ c.segment ≤ 4096) && decide (4 ≤ c.frames ∧ c.frames ≤ 4096) && decide (1 ≤ c.procs ∧ c.procs ≤ 64) && decide (1 ≤ c.regions ∧ c.regions ≤ 32) && decide (1 ≤ c.pages ∧ c.pages ≤ 65536)
set_option maxHeartbeats 1000000 in
theorem numbers_any (c : Cfg) (w : World) : Calls Try.prog 69 #[c.val] w fun e w' => e = .returned (.bool (numB c)) ∧ Below w.heap.size w w' := by
  have hb : Below w.heap.size w (w.alloc (.cells #[.int .i64 c.sectors, .int .i64 c.sector, .int .i64 c.journal, .int .i64 c.segment, .int .i64 c.page, .int .i64 c.frames, .int .i64 c.procs, .int .i64 c.regions, .int .i64 c.pages] 23)) := (Below.refl _ _).alloc (Nat.le_refl _) _
  unfold Cfg.val
  by_cases n0 : ¬ (1 ≤ c.sectors ∧ c.sectors ≤ 65536)
  · have c0 := n0
    have hB : numB c = false := by
      unfold numB
      simp only [decide_eq_false c0, Bool.and_false, Bool.false_and]
    rw [hB]
    clear hB
    go_enter Try.func69, Try.ntmps69
    go_wp2_with fail
    refine (within_no _ _ _ c0 _).mono ?_
    rintro e w' ⟨rfl, rfl⟩
    go_wp2
    go_ret
    exact ⟨rfl, hb⟩
  have c0 : 1 ≤ c.sectors ∧ c.sectors ≤ 65536 := Decidable.of_not_not n0
  clear n0
  by_cases n1 : ¬ (64 ≤ c.sector ∧ c.sector ≤ 4096)
  · have c1 := n1
    have hB : numB c = false := by
      unfold numB
      simp only [decide_eq_false c1, Bool.and_false, Bool.false_and]
    rw [hB]
    clear hB
    go_enter Try.func69, Try.ntmps69
    go_wp2_with fail
    refine (within_yes _ _ _ c0.1 c0.2 _).mono ?_
    rintro e w' ⟨rfl, rfl⟩
    go_wp2_with fail
    refine (within_no _ _ _ c1 _).mono ?_
    rintro e w' ⟨rfl, rfl⟩
    go_wp2
    go_ret
    exact ⟨rfl, hb⟩
  have c1 : 64 ≤ c.sector ∧ c.sector ≤ 4096 := Decidable.of_not_not n1
  clear n1
  by_cases n2 : ¬ (16 ≤ c.page ∧ c.page ≤ 4096)
  · have c2 := n2
    have hB : numB c = false := by
      unfold numB
      simp only [decide_eq_false c2, Bool.and_false, Bool.false_and]
    rw [hB]
    clear hB
    go_enter Try.func69, Try.ntmps69
    go_wp2_with fail
    refine (within_yes _ _ _ c0.1 c0.2 _).mono ?_
    rintro e w' ⟨rfl, rfl⟩
    go_wp2_with fail
    refine (within_yes _ _ _ c1.1 c1.2 _).mono ?_
    rintro e w' ⟨rfl, rfl⟩
    go_wp2_with fail
    refine (within_no _ _ _ c2 _).mono ?_
    rintro e w' ⟨rfl, rfl⟩
    go_wp2
    go_ret
    exact ⟨rfl, hb⟩
  have c2 : 16 ≤ c.page ∧ c.page ≤ 4096 := Decidable.of_not_not n2
  clear n2
  by_cases n3 : ¬ (4 ≤ c.journal ∧ c.journal ≤ 4096)
  · have c3 := n3
    have hB : numB c = false := by
      unfold numB
      simp only [decide_eq_false c3, Bool.and_false, Bool.false_and]
    rw [hB]
    clear hB
    go_enter Try.func69, Try.ntmps69
    go_wp2_with fail
    refine (within_yes _ _ _ c0.1 c0.2 _).mono ?_
    rintro e w' ⟨rfl, rfl⟩
    go_wp2_with fail
    refine (within_yes _ _ _ c1.1 c1.2 _).mono ?_
    rintro e w' ⟨rfl, rfl⟩
    go_wp2_with fail
    refine (within_yes _ _ _ c2.1 c2.2 _).mono ?_
    rintro e w' ⟨rfl, rfl⟩
    go_wp2_with fail
    refine (within_no _ _ _ c3 _).mono ?_
    rintro e w' ⟨rfl, rfl⟩
    go_wp2
    go_ret
    exact ⟨rfl, hb⟩
  have c3 : 4 ≤ c.journal ∧ c.journal ≤ 4096 := Decidable.of_not_not n3
  clear n3
  by_cases n4 : ¬ (2 ≤ c.segment ∧ c.segment ≤ 4096)
  · have c4 := n4
    have hB : numB c = false := by
      unfold numB
      simp only [decide_eq_false c4, Bool.and_false, Bool.false_and]
    rw [hB]
    clear hB
    go_enter Try.func69, Try.ntmps69
    go_wp2_with fail
    refine (within_yes _ _ _ c0.1 c0.2 _).mono ?_
    rintro e w' ⟨rfl, rfl⟩
    go_wp2_with fail
    refine (within_yes _ _ _ c1.1 c1.2 _).mono ?_
    rintro e w' ⟨rfl, rfl⟩
    go_wp2_with fail
    refine (within_yes _ _ _ c2.1 c2.2 _).mono ?_
    rintro e w' ⟨rfl, rfl⟩
    go_wp2_with fail
    refine (within_yes _ _ _ c3.1 c3.2 _).mono ?_
    rintro e w' ⟨rfl, rfl⟩
    go_wp2_with fail
    refine (within_no _ _ _ c4 _).mono ?_
    rintro e w' ⟨rfl, rfl⟩
    go_wp2
    go_ret
    exact ⟨rfl, hb⟩
  have c4 : 2 ≤ c.segment ∧ c.segment ≤ 4096 := Decidable.of_not_not n4
  clear n4
  by_cases n5 : ¬ (4 ≤ c.frames ∧ c.frames ≤ 4096)
  · have c5 := n5
    have hB : numB c = false := by
      unfold numB
      simp only [decide_eq_false c5, Bool.and_false, Bool.false_and]
    rw [hB]
    clear hB
    go_enter Try.func69, Try.ntmps69
    go_wp2_with fail
    refine (within_yes _ _ _ c0.1 c0.2 _).mono ?_
    rintro e w' ⟨rfl, rfl⟩
    go_wp2_with fail
    refine (within_yes _ _ _ c1.1 c1.2 _).mono ?_
    rintro e w' ⟨rfl, rfl⟩
    go_wp2_with fail
    refine (within_yes _ _ _ c2.1 c2.2 _).mono ?_
    rintro e w' ⟨rfl, rfl⟩
    go_wp2_with fail
    refine (within_yes _ _ _ c3.1 c3.2 _).mono ?_
    rintro e w' ⟨rfl, rfl⟩
    go_wp2_with fail
    refine (within_yes _ _ _ c4.1 c4.2 _).mono ?_
    rintro e w' ⟨rfl, rfl⟩
    go_wp2_with fail
    refine (within_no _ _ _ c5 _).mono ?_
    rintro e w' ⟨rfl, rfl⟩
    go_wp2
    go_ret
    exact ⟨rfl, hb⟩
  have c5 : 4 ≤ c.frames ∧ c.frames ≤ 4096 := Decidable.of_not_not n5
  clear n5
  by_cases n6 : ¬ (1 ≤ c.procs ∧ c.procs ≤ 64)
  · have c6 := n6
    have hB : numB c = false := by
      unfold numB
      simp only [decide_eq_false c6, Bool.and_false, Bool.false_and]
    rw [hB]
    clear hB
    go_enter Try.func69, Try.ntmps69
    go_wp2_with fail
    refine (within_yes _ _ _ c0.1 c0.2 _).mono ?_
    rintro e w' ⟨rfl, rfl⟩
    go_wp2_with fail
    refine (within_yes _ _ _ c1.1 c1.2 _).mono ?_
    rintro e w' ⟨rfl, rfl⟩
    go_wp2_with fail
    refine (within_yes _ _ _ c2.1 c2.2 _).mono ?_
    rintro e w' ⟨rfl, rfl⟩
    go_wp2_with fail
    refine (within_yes _ _ _ c3.1 c3.2 _).mono ?_
    rintro e w' ⟨rfl, rfl⟩
    go_wp2_with fail
    refine (within_yes _ _ _ c4.1 c4.2 _).mono ?_
    rintro e w' ⟨rfl, rfl⟩
    go_wp2_with fail
    refine (within_yes _ _ _ c5.1 c5.2 _).mono ?_
    rintro e w' ⟨rfl, rfl⟩
    go_wp2_with fail
    refine (within_no _ _ _ c6 _).mono ?_
    rintro e w' ⟨rfl, rfl⟩
    go_wp2
    go_ret
    exact ⟨rfl, hb⟩
  have c6 : 1 ≤ c.procs ∧ c.procs ≤ 64 := Decidable.of_not_not n6
  clear n6
  by_cases n7 : ¬ (1 ≤ c.regions ∧ c.regions ≤ 32)
  · have c7 := n7
    have hB : numB c = false := by
      unfold numB
      simp only [decide_eq_false c7, Bool.and_false, Bool.false_and]
    rw [hB]
    clear hB
    go_enter Try.func69, Try.ntmps69
    go_wp2_with fail
    refine (within_yes _ _ _ c0.1 c0.2 _).mono ?_
    rintro e w' ⟨rfl, rfl⟩
    go_wp2_with fail
    refine (within_yes _ _ _ c1.1 c1.2 _).mono ?_
    rintro e w' ⟨rfl, rfl⟩
    go_wp2_with fail
    refine (within_yes _ _ _ c2.1 c2.2 _).mono ?_
    rintro e w' ⟨rfl, rfl⟩
    go_wp2_with fail
    refine (within_yes _ _ _ c3.1 c3.2 _).mono ?_
    rintro e w' ⟨rfl, rfl⟩
    go_wp2_with fail
    refine (within_yes _ _ _ c4.1 c4.2 _).mono ?_
    rintro e w' ⟨rfl, rfl⟩
    go_wp2_with fail
    refine (within_yes _ _ _ c5.1 c5.2 _).mono ?_
    rintro e w' ⟨rfl, rfl⟩
    go_wp2_with fail
    refine (within_yes _ _ _ c6.1 c6.2 _).mono ?_
    rintro e w' ⟨rfl, rfl⟩
    go_wp2_with fail
    refine (within_no _ _ _ c7 _).mono ?_
    rintro e w' ⟨rfl, rfl⟩
    go_wp2
    go_ret
    exact ⟨rfl, hb⟩
  have c7 : 1 ≤ c.regions ∧ c.regions ≤ 32 := Decidable.of_not_not n7
  clear n7
  by_cases n8 : ¬ (1 ≤ c.pages ∧ c.pages ≤ 65536)
  · have c8 := n8
    have hB : numB c = false := by
      unfold numB
      simp only [decide_eq_false c8, Bool.and_false, Bool.false_and]
    rw [hB]
    clear hB
    go_enter Try.func69, Try.ntmps69
    go_wp2_with fail
    refine (within_yes _ _ _ c0.1 c0.2 _).mono ?_
    rintro e w' ⟨rfl, rfl⟩
    go_wp2_with fail
    refine (within_yes _ _ _ c1.1 c1.2 _).mono ?_
    rintro e w' ⟨rfl, rfl⟩
    go_wp2_with fail
    refine (within_yes _ _ _ c2.1 c2.2 _).mono ?_
    rintro e w' ⟨rfl, rfl⟩
    go_wp2_with fail
    refine (within_yes _ _ _ c3.1 c3.2 _).mono ?_
    rintro e w' ⟨rfl, rfl⟩
    go_wp2_with fail
    refine (within_yes _ _ _ c4.1 c4.2 _).mono ?_
    rintro e w' ⟨rfl, rfl⟩
    go_wp2_with fail
    refine (within_yes _ _ _ c5.1 c5.2 _).mono ?_
    rintro e w' ⟨rfl, rfl⟩
    go_wp2_with fail
    refine (within_yes _ _ _ c6.1 c6.2 _).mono ?_
    rintro e w' ⟨rfl, rfl⟩
    go_wp2_with fail
    refine (within_yes _ _ _ c7.1 c7.2 _).mono ?_
    rintro e w' ⟨rfl, rfl⟩
    go_wp2_with fail
    refine (within_no _ _ _ c8 _).mono ?_
    rintro e w' ⟨rfl, rfl⟩
    go_wp2
    go_ret
    exact ⟨rfl, hb⟩
  have c8 : 1 ≤ c.pages ∧ c.pages ≤ 65536 := Decidable.of_not_not n8
  clear n8
  have hB : numB c = true := by
    unfold numB
    simp only [decide_eq_true c0, decide_eq_true c1, decide_eq_true c2, decide_eq_true c3, decide_eq_true c4, decide_eq_true c5, decide_eq_true c6, decide_eq_true c7, decide_eq_true c8, Bool.and_true]
  rw [hB]
  clear hB
  go_enter Try.func69, Try.ntmps69
  go_wp2_with fail
  refine (within_yes _ _ _ c0.1 c0.2 _).mono ?_
  rintro e w' ⟨rfl, rfl⟩
  go_wp2_with fail
  refine (within_yes _ _ _ c1.1 c1.2 _).mono ?_
  rintro e w' ⟨rfl, rfl⟩
  go_wp2_with fail
  refine (within_yes _ _ _ c2.1 c2.2 _).mono ?_
  rintro e w' ⟨rfl, rfl⟩
  go_wp2_with fail
  refine (within_yes _ _ _ c3.1 c3.2 _).mono ?_
  rintro e w' ⟨rfl, rfl⟩
  go_wp2_with fail
  refine (within_yes _ _ _ c4.1 c4.2 _).mono ?_
  rintro e w' ⟨rfl, rfl⟩
  go_wp2_with fail
  refine (within_yes _ _ _ c5.1 c5.2 _).mono ?_
  rintro e w' ⟨rfl, rfl⟩
  go_wp2_with fail
  refine (within_yes _ _ _ c6.1 c6.2 _).mono ?_
  rintro e w' ⟨rfl, rfl⟩
  go_wp2_with fail
  refine (within_yes _ _ _ c7.1 c7.2 _).mono ?_
  rintro e w' ⟨rfl, rfl⟩
  go_wp2_with fail
  refine (within_yes _ _ _ c8.1 c8.2 _).mono ?_
  rintro e w' ⟨rfl, rfl⟩
  go_wp2
  go_ret
  exact ⟨rfl, hb⟩
set_option maxHeartbeats 1000000 in
theorem plain_any (c : Cfg) (w : World) : Calls Try.prog 71 #[c.val] w fun e w' => e = .returned (.bool (numB c)) ∧ Below w.heap.size w w' := by
  have hb : Below w.heap.size w (w.alloc (.cells #[.int .i64 c.sectors, .int .i64 c.sector, .int .i64 c.journal, .int .i64 c.segment, .int .i64 c.page, .int .i64 c.frames, .int .i64 c.procs, .int .i64 c.regions, .int .i64 c.pages] 23)) := (Below.refl _ _).alloc (Nat.le_refl _) _
  unfold Cfg.val
  by_cases n0 : ¬ (1 ≤ c.sectors ∧ c.sectors ≤ 65536)
  · have c0 := n0
    have hB : numB c = false := by
      unfold numB
      simp only [decide_eq_false c0, Bool.and_false, Bool.false_and]
    rw [hB]
    clear hB
    go_enter Try.func71, Try.ntmps71
    go_wp2_with fail
    refine (rin_no _ _ _ c0 _).mono ?_
    rintro e w' ⟨rfl, rfl⟩
    go_wp2
    go_ret
    exact ⟨rfl, hb⟩
  have c0 : 1 ≤ c.sectors ∧ c.sectors ≤ 65536 := Decidable.of_not_not n0
  clear n0
  by_cases n1 : ¬ (64 ≤ c.sector ∧ c.sector ≤ 4096)
  · have c1 := n1
    have hB : numB c = false := by
      unfold numB
      simp only [decide_eq_false c1, Bool.and_false, Bool.false_and]
    rw [hB]
    clear hB
    go_enter Try.func71, Try.ntmps71
    go_wp2_with fail
    refine (rin_yes _ _ _ c0.1 c0.2 _).mono ?_
    rintro e w' ⟨rfl, rfl⟩
    go_wp2_with fail
    refine (rin_no _ _ _ c1 _).mono ?_
    rintro e w' ⟨rfl, rfl⟩
    go_wp2
    go_ret
    exact ⟨rfl, hb⟩
  have c1 : 64 ≤ c.sector ∧ c.sector ≤ 4096 := Decidable.of_not_not n1
  clear n1
  by_cases n2 : ¬ (16 ≤ c.page ∧ c.page ≤ 4096)
  · have c2 := n2
    have hB : numB c = false := by
      unfold numB
      simp only [decide_eq_false c2, Bool.and_false, Bool.false_and]
    rw [hB]
    clear hB
    go_enter Try.func71, Try.ntmps71
    go_wp2_with fail
    refine (rin_yes _ _ _ c0.1 c0.2 _).mono ?_
    rintro e w' ⟨rfl, rfl⟩
    go_wp2_with fail
    refine (rin_yes _ _ _ c1.1 c1.2 _).mono ?_
    rintro e w' ⟨rfl, rfl⟩
    go_wp2_with fail
    refine (rin_no _ _ _ c2 _).mono ?_
    rintro e w' ⟨rfl, rfl⟩
    go_wp2
    go_ret
    exact ⟨rfl, hb⟩
  have c2 : 16 ≤ c.page ∧ c.page ≤ 4096 := Decidable.of_not_not n2
  clear n2
  by_cases n3 : ¬ (4 ≤ c.journal ∧ c.journal ≤ 4096)
  · have c3 := n3
    have hB : numB c = false := by
      unfold numB
      simp only [decide_eq_false c3, Bool.and_false, Bool.false_and]
    rw [hB]
    clear hB
    go_enter Try.func71, Try.ntmps71
    go_wp2_with fail
    refine (rin_yes _ _ _ c0.1 c0.2 _).mono ?_
    rintro e w' ⟨rfl, rfl⟩
    go_wp2_with fail
    refine (rin_yes _ _ _ c1.1 c1.2 _).mono ?_
    rintro e w' ⟨rfl, rfl⟩
    go_wp2_with fail
    refine (rin_yes _ _ _ c2.1 c2.2 _).mono ?_
    rintro e w' ⟨rfl, rfl⟩
    go_wp2_with fail
    refine (rin_no _ _ _ c3 _).mono ?_
    rintro e w' ⟨rfl, rfl⟩
    go_wp2
    go_ret
    exact ⟨rfl, hb⟩
  have c3 : 4 ≤ c.journal ∧ c.journal ≤ 4096 := Decidable.of_not_not n3
  clear n3
  by_cases n4 : ¬ (2 ≤ c.segment ∧ c.segment ≤ 4096)
  · have c4 := n4
    have hB : numB c = false := by
      unfold numB
      simp only [decide_eq_false c4, Bool.and_false, Bool.false_and]
    rw [hB]
    clear hB
    go_enter Try.func71, Try.ntmps71
    go_wp2_with fail
    refine (rin_yes _ _ _ c0.1 c0.2 _).mono ?_
    rintro e w' ⟨rfl, rfl⟩
    go_wp2_with fail
    refine (rin_yes _ _ _ c1.1 c1.2 _).mono ?_
    rintro e w' ⟨rfl, rfl⟩
    go_wp2_with fail
    refine (rin_yes _ _ _ c2.1 c2.2 _).mono ?_
    rintro e w' ⟨rfl, rfl⟩
    go_wp2_with fail
    refine (rin_yes _ _ _ c3.1 c3.2 _).mono ?_
    rintro e w' ⟨rfl, rfl⟩
    go_wp2_with fail
    refine (rin_no _ _ _ c4 _).mono ?_
    rintro e w' ⟨rfl, rfl⟩
    go_wp2
    go_ret
    exact ⟨rfl, hb⟩
  have c4 : 2 ≤ c.segment ∧ c.segment ≤ 4096 := Decidable.of_not_not n4
  clear n4
  by_cases n5 : ¬ (4 ≤ c.frames ∧ c.frames ≤ 4096)
  · have c5 := n5
    have hB : numB c = false := by
      unfold numB
      simp only [decide_eq_false c5, Bool.and_false, Bool.false_and]
    rw [hB]
    clear hB
    go_enter Try.func71, Try.ntmps71
    go_wp2_with fail
    refine (rin_yes _ _ _ c0.1 c0.2 _).mono ?_
    rintro e w' ⟨rfl, rfl⟩
    go_wp2_with fail
    refine (rin_yes _ _ _ c1.1 c1.2 _).mono ?_
    rintro e w' ⟨rfl, rfl⟩
    go_wp2_with fail
    refine (rin_yes _ _ _ c2.1 c2.2 _).mono ?_
    rintro e w' ⟨rfl, rfl⟩
    go_wp2_with fail
    refine (rin_yes _ _ _ c3.1 c3.2 _).mono ?_
    rintro e w' ⟨rfl, rfl⟩
    go_wp2_with fail
    refine (rin_yes _ _ _ c4.1 c4.2 _).mono ?_
    rintro e w' ⟨rfl, rfl⟩
    go_wp2_with fail
    refine (rin_no _ _ _ c5 _).mono ?_
    rintro e w' ⟨rfl, rfl⟩
    go_wp2
    go_ret
    exact ⟨rfl, hb⟩
  have c5 : 4 ≤ c.frames ∧ c.frames ≤ 4096 := Decidable.of_not_not n5
  clear n5
  by_cases n6 : ¬ (1 ≤ c.procs ∧ c.procs ≤ 64)
  · have c6 := n6
    have hB : numB c = false := by
      unfold numB
      simp only [decide_eq_false c6, Bool.and_false, Bool.false_and]
    rw [hB]
    clear hB
    go_enter Try.func71, Try.ntmps71
    go_wp2_with fail
    refine (rin_yes _ _ _ c0.1 c0.2 _).mono ?_
    rintro e w' ⟨rfl, rfl⟩
    go_wp2_with fail
    refine (rin_yes _ _ _ c1.1 c1.2 _).mono ?_
    rintro e w' ⟨rfl, rfl⟩
    go_wp2_with fail
    refine (rin_yes _ _ _ c2.1 c2.2 _).mono ?_
    rintro e w' ⟨rfl, rfl⟩
    go_wp2_with fail
    refine (rin_yes _ _ _ c3.1 c3.2 _).mono ?_
    rintro e w' ⟨rfl, rfl⟩
    go_wp2_with fail
    refine (rin_yes _ _ _ c4.1 c4.2 _).mono ?_
    rintro e w' ⟨rfl, rfl⟩
    go_wp2_with fail
    refine (rin_yes _ _ _ c5.1 c5.2 _).mono ?_
    rintro e w' ⟨rfl, rfl⟩
    go_wp2_with fail
    refine (rin_no _ _ _ c6 _).mono ?_
    rintro e w' ⟨rfl, rfl⟩
    go_wp2
    go_ret
    exact ⟨rfl, hb⟩
  have c6 : 1 ≤ c.procs ∧ c.procs ≤ 64 := Decidable.of_not_not n6
  clear n6
  by_cases n7 : ¬ (1 ≤ c.regions ∧ c.regions ≤ 32)
  · have c7 := n7
    have hB : numB c = false := by
      unfold numB
      simp only [decide_eq_false c7, Bool.and_false, Bool.false_and]
    rw [hB]
    clear hB
    go_enter Try.func71, Try.ntmps71
    go_wp2_with fail
    refine (rin_yes _ _ _ c0.1 c0.2 _).mono ?_
    rintro e w' ⟨rfl, rfl⟩
    go_wp2_with fail
    refine (rin_yes _ _ _ c1.1 c1.2 _).mono ?_
    rintro e w' ⟨rfl, rfl⟩
    go_wp2_with fail
    refine (rin_yes _ _ _ c2.1 c2.2 _).mono ?_
    rintro e w' ⟨rfl, rfl⟩
    go_wp2_with fail
    refine (rin_yes _ _ _ c3.1 c3.2 _).mono ?_
    rintro e w' ⟨rfl, rfl⟩
    go_wp2_with fail
    refine (rin_yes _ _ _ c4.1 c4.2 _).mono ?_
    rintro e w' ⟨rfl, rfl⟩
    go_wp2_with fail
    refine (rin_yes _ _ _ c5.1 c5.2 _).mono ?_
    rintro e w' ⟨rfl, rfl⟩
    go_wp2_with fail
    refine (rin_yes _ _ _ c6.1 c6.2 _).mono ?_
    rintro e w' ⟨rfl, rfl⟩
    go_wp2_with fail
    refine (rin_no _ _ _ c7 _).mono ?_
    rintro e w' ⟨rfl, rfl⟩
    go_wp2
    go_ret
    exact ⟨rfl, hb⟩
  have c7 : 1 ≤ c.regions ∧ c.regions ≤ 32 := Decidable.of_not_not n7
  clear n7
  by_cases n8 : ¬ (1 ≤ c.pages ∧ c.pages ≤ 65536)
  · have c8 := n8
    have hB : numB c = false := by
      unfold numB
      simp only [decide_eq_false c8, Bool.and_false, Bool.false_and]
    rw [hB]
    clear hB
    go_enter Try.func71, Try.ntmps71
    go_wp2_with fail
    refine (rin_yes _ _ _ c0.1 c0.2 _).mono ?_
    rintro e w' ⟨rfl, rfl⟩
    go_wp2_with fail
    refine (rin_yes _ _ _ c1.1 c1.2 _).mono ?_
    rintro e w' ⟨rfl, rfl⟩
    go_wp2_with fail
    refine (rin_yes _ _ _ c2.1 c2.2 _).mono ?_
    rintro e w' ⟨rfl, rfl⟩
    go_wp2_with fail
    refine (rin_yes _ _ _ c3.1 c3.2 _).mono ?_
    rintro e w' ⟨rfl, rfl⟩
    go_wp2_with fail
    refine (rin_yes _ _ _ c4.1 c4.2 _).mono ?_
    rintro e w' ⟨rfl, rfl⟩
    go_wp2_with fail
    refine (rin_yes _ _ _ c5.1 c5.2 _).mono ?_
    rintro e w' ⟨rfl, rfl⟩
    go_wp2_with fail
    refine (rin_yes _ _ _ c6.1 c6.2 _).mono ?_
    rintro e w' ⟨rfl, rfl⟩
    go_wp2_with fail
    refine (rin_yes _ _ _ c7.1 c7.2 _).mono ?_
    rintro e w' ⟨rfl, rfl⟩
    go_wp2_with fail
    refine (rin_no _ _ _ c8 _).mono ?_
    rintro e w' ⟨rfl, rfl⟩
    go_wp2
    go_ret
    exact ⟨rfl, hb⟩
  have c8 : 1 ≤ c.pages ∧ c.pages ≤ 65536 := Decidable.of_not_not n8
  clear n8
  have hB : numB c = true := by
    unfold numB
    simp only [decide_eq_true c0, decide_eq_true c1, decide_eq_true c2, decide_eq_true c3, decide_eq_true c4, decide_eq_true c5, decide_eq_true c6, decide_eq_true c7, decide_eq_true c8, Bool.and_true]
  rw [hB]
  clear hB
  go_enter Try.func71, Try.ntmps71
  go_wp2_with fail
  refine (rin_yes _ _ _ c0.1 c0.2 _).mono ?_
  rintro e w' ⟨rfl, rfl⟩
  go_wp2_with fail
  refine (rin_yes _ _ _ c1.1 c1.2 _).mono ?_
  rintro e w' ⟨rfl, rfl⟩
  go_wp2_with fail
  refine (rin_yes _ _ _ c2.1 c2.2 _).mono ?_
  rintro e w' ⟨rfl, rfl⟩
  go_wp2_with fail
  refine (rin_yes _ _ _ c3.1 c3.2 _).mono ?_
  rintro e w' ⟨rfl, rfl⟩
  go_wp2_with fail
  refine (rin_yes _ _ _ c4.1 c4.2 _).mono ?_
  rintro e w' ⟨rfl, rfl⟩
  go_wp2_with fail
  refine (rin_yes _ _ _ c5.1 c5.2 _).mono ?_
  rintro e w' ⟨rfl, rfl⟩
  go_wp2_with fail
  refine (rin_yes _ _ _ c6.1 c6.2 _).mono ?_
  rintro e w' ⟨rfl, rfl⟩
  go_wp2_with fail
  refine (rin_yes _ _ _ c7.1 c7.2 _).mono ?_
  rintro e w' ⟨rfl, rfl⟩
  go_wp2_with fail
  refine (rin_yes _ _ _ c8.1 c8.2 _).mono ?_
  rintro e w' ⟨rfl, rfl⟩
  go_wp2
  go_ret
  exact ⟨rfl, hb⟩

def C9 (c : Cfg) : Array Value := #[.int .i64 c.sectors, .int .i64 c.sector, .int .i64 c.journal, .int .i64 c.segment, .int .i64 c.page, .int .i64 c.frames, .int .i64 c.procs, .int .i64 c.regions, .int .i64 c.pages]
theorem numB_true {c : Cfg} (h : numB c = true) : (1 ≤ c.sectors ∧ c.sectors ≤ 65536) ∧ (64 ≤ c.sector ∧ c.sector ≤ 4096) ∧ (16 ≤ c.page ∧ c.page ≤ 4096) ∧ (4 ≤ c.journal ∧ c.journal ≤ 4096) ∧ (2 ≤ c.segment ∧ c.segment ≤ 4096) ∧ (4 ≤ c.frames ∧ c.frames ≤ 4096) ∧ (1 ≤ c.procs ∧ c.procs ≤ 64) ∧ (1 ≤ c.regions ∧ c.regions ≤ 32) ∧ (1 ≤ c.pages ∧ c.pages ≤ 65536) := by
  unfold numB at h
  simp only [Bool.and_eq_true, decide_eq_true_eq] at h
  obtain ⟨⟨⟨⟨⟨⟨⟨⟨h1, h2⟩, h3⟩, h4⟩, h5⟩, h6⟩, h7⟩, h8⟩, h9⟩ := h
  exact ⟨h1, h2, h3, h4, h5, h6, h7, h8, h9⟩
/-- a box holds a shape -/
def Boxed (w : World) (k : Nat) (c : Cfg) : Prop := w.heap[k]? = some (.cells (C9 c) 23 (0, 0))
theorem Boxed.cell {w : World} {k : Nat} {c : Cfg} (h : Boxed w k c) (i : Nat) : w.cell? ⟨k, i, none⟩ = (C9 c)[i]? := cell_of_row w k i _ _ (0, 0) h
theorem Boxed.lt {w : World} {k : Nat} {c : Cfg} (h : Boxed w k c) : k < w.heap.size := by
  rcases Nat.lt_or_ge k w.heap.size with h1 | h1
  · exact h1
  · unfold Boxed at h; rw [Array.getElem?_eq_none h1] at h; cases h
theorem Boxed.next {w w' : World} {k : Nat} {c : Cfg} (hb : Below w.heap.size w w') (h : Boxed w k c) : Boxed w' k c := (hb.block k h.lt).trans h
theorem Boxed.drewN {w : World} {k : Nat} {c : Cfg} (h : Boxed w k c) (n : Nat) : Boxed (w.drewN n) k c := h
theorem Boxed.new (w : World) (c : Cfg) : Boxed (w.alloc (.cells (C9 c) 23)) w.heap.size c := heap_alloc_new w _
theorem Boxed.below {w w' : World} {k B : Nat} {c : Cfg} (h : Boxed w k c) (hb : Below B w w') (hk : k < B) : Boxed w' k c := (hb.block k hk).trans h
theorem Boxed.cells {w : World} {k : Nat} {c : Cfg} (h : Boxed w k c) : w.cell? ⟨k, 0, none⟩ = some (.int .i64 c.sectors) ∧ w.cell? ⟨k, 1, none⟩ = some (.int .i64 c.sector) ∧ w.cell? ⟨k, 2, none⟩ = some (.int .i64 c.journal) ∧ w.cell? ⟨k, 3, none⟩ = some (.int .i64 c.segment) ∧ w.cell? ⟨k, 4, none⟩ = some (.int .i64 c.page) ∧ w.cell? ⟨k, 5, none⟩ = some (.int .i64 c.frames) ∧ w.cell? ⟨k, 6, none⟩ = some (.int .i64 c.procs) ∧ w.cell? ⟨k, 7, none⟩ = some (.int .i64 c.regions) ∧ w.cell? ⟨k, 8, none⟩ = some (.int .i64 c.pages) :=
  ⟨h.cell 0, h.cell 1, h.cell 2, h.cell 3, h.cell 4, h.cell 5, h.cell 6, h.cell 7, h.cell 8⟩

def segN (c : Cfg) : Int := if numB c = true then (if c.sectors - 2 - c.journal < 0 then 0 else c.sectors - 2 - c.journal) / c.segment else 0
theorem ret_intG {k : IntKind} {a b : Int} (h : a = b) : Ending.returned (.int k a) = .returned (.int k b) := by rw [h]
theorem standard_any (c : Cfg) (h0 : 0 ≤ c.page) (h1 : c.page ≤ 4096) (w : World) : Calls Try.prog 70 #[c.val] w fun e w' => e = .returned (.int .i64 (c.page + 64)) ∧ Below w.heap.size w w' := by
  have hb : Below w.heap.size w (w.alloc (.cells (C9 c) 23)) := (Below.refl _ _).alloc (Nat.le_refl _) _
  unfold C9 at hb
  unfold Cfg.val
  go_enter Try.func70, Try.ntmps70
  go_wp2
  go_ret
  exact ⟨rfl, hb⟩
theorem segments_any (c : Cfg) (w : World) : Calls Try.prog 22 #[c.val] w fun e w' => e = .returned (.int .i64 (segN c)) ∧ Below w.heap.size w w' := by
  have hn := fun w1 => numbers_any c w1
  have hbx := Boxed.new w c
  have hb0 : Below w.heap.size w (w.alloc (.cells (C9 c) 23)) := (Below.refl _ _).alloc (Nat.le_refl _) _
  by_cases h : numB c = true
  · rw [h] at hn
    have hs : segN c = (if c.sectors - 2 - c.journal < 0 then 0 else c.sectors - 2 - c.journal) / c.segment := by unfold segN; rw [if_pos h]
    obtain ⟨h1, h2, h3, h4, h5, h6, h7, h8, h9⟩ := numB_true h
    rw [hs]
    have HN := Lib.hid hn
    clear hn hs h
    unfold C9 at hb0
    have HB := Lib.hid hbx
    clear hbx
    unfold Cfg.val at HN ⊢
    by_cases hneg : c.sectors - 2 - c.journal < 0
    all_goals
      go_enter Try.func22, Try.ntmps22
      go_wp2_with fail
      refine (HN.out _).mono ?_
      rintro e w1 ⟨rfl, hb1⟩
      have hbx1 := (HB.out.below (B := w.heap.size + 1) (by simpa [C9] using hb1) (by omega)).cells
      obtain ⟨k0, k1, k2, k3, k4, k5, k6, k7, k8⟩ := hbx1
      have hB := hb0.trans (hb1.mono (by simp))
      go_wp2
      all_goals go_ret
      all_goals refine ⟨ret_intG ?_, hB⟩
      all_goals first | rfl | (simp; done) | (have e0 : c.sectors - 2 - c.journal = 0 := by omega
                                              rw [e0]; simp)
  · have hb : numB c = false := by simpa using h
    rw [hb] at hn
    have hs : segN c = 0 := by unfold segN; rw [if_neg h]
    rw [hs]
    have HN := Lib.hid hn
    clear hn hs h hb hbx
    unfold C9 at hb0
    unfold Cfg.val at HN ⊢
    go_enter Try.func22, Try.ntmps22
    go_wp2_with fail
    refine (HN.out _).mono ?_
    rintro e w1 ⟨rfl, hb1⟩
    have hB := hb0.trans (hb1.mono (by simp))
    go_wp2
    go_ret
    exact ⟨rfl, hB⟩

theorem belowN {B : Nat} {a w : World} (h : Below B a w) (n : Nat) : Below B a (w.drewN n) := ⟨h.os, h.tape, h.output, h.size, h.block⟩
def blobN (s b : Int) : Int := ((if b < 0 then 0 else b) + 39 + s) / s
theorem blob_eq {s b : Int} (hs : 1 ≤ s) : b / s + (b % s + 40 + s - 1) / s = (b + 39 + s) / s := by
  have h := Int.mul_ediv_add_emod b s
  have e : b + 39 + s = (b % s + 40 + s - 1) + b / s * s := by rw [Int.mul_comm]; omega
  rw [e, Int.add_mul_ediv_right _ _ (by omega)]
  omega
set_option maxHeartbeats 1000000 in
theorem blob_any (c : Cfg) (b : Int) (h1 : 64 ≤ c.sector) (h2 : c.sector ≤ 4096) (b0 : -9223372036854775808 ≤ b) (b1 : b ≤ 9223372036854775807) (w : World) :
    Calls Try.prog 26 #[c.val, .int .i64 b] w fun e w' => e = .returned (.int .i64 (blobN c.sector b)) ∧ Below w.heap.size w w' := by
  have hb0 : Below w.heap.size w (w.alloc (.cells (C9 c) 23)) := (Below.refl _ _).alloc (Nat.le_refl _) _
  unfold C9 at hb0
  unfold Cfg.val
  have hne : c.sector ≠ 0 := by omega
  have t0 : (c.sector == 0) = false := by rw [beq_eq_false_iff_ne]; omega
  have hsc0 : 0 ≤ c.sector := by omega
  by_cases hneg : b < 0
  · have hN : blobN c.sector b = (0 + 39 + c.sector) / c.sector := by unfold blobN; rw [if_pos hneg]
    have hE := blob_eq (s := c.sector) (b := 0) (by omega)
    have HN := Lib.hid (hN.trans hE.symm)
    clear hN hE
    go_enter Try.func26, Try.ntmps26
    go_wp2
    all_goals go_quiet (fail)
    all_goals go_wp2
    all_goals go_ret
    have hx0 : 0 ≤ (40 + c.sector - 1) / c.sector := Int.ediv_nonneg (by omega) (by omega)
    have hx1 : (40 + c.sector - 1) / c.sector ≤ 40 + c.sector - 1 := Int.ediv_le_self _ (by omega)
    all_goals exact ⟨ret_intG (by rw [HN.out]; simp; exact IntWalk.wrap64_in _ (by omega)), belowN hb0 _⟩
  · have hN : blobN c.sector b = (b + 39 + c.sector) / c.sector := by unfold blobN; rw [if_neg hneg]
    have hE := blob_eq (s := c.sector) (b := b) (by omega)
    have hm0 := Int.emod_nonneg b (b := c.sector) (by omega)
    have hm1 := Int.emod_lt_of_pos b (b := c.sector) (by omega)
    have hd0 : 0 ≤ b / c.sector := Int.ediv_nonneg (by omega) (by omega)
    have hd1 : b / c.sector ≤ b := Int.ediv_le_self _ (by omega)
    have hd2 : b / c.sector * 64 ≤ b := by
      have h3 := Int.mul_ediv_add_emod b c.sector
      have h4 : b / c.sector * 64 ≤ b / c.sector * c.sector := Int.mul_le_mul_of_nonneg_left h1 hd0
      rw [Int.mul_comm] at h3
      omega
    have hx0 : 0 ≤ (b % c.sector + 40 + c.sector - 1) / c.sector := Int.ediv_nonneg (by omega) (by omega)
    have hx1 : (b % c.sector + 40 + c.sector - 1) / c.sector ≤ b % c.sector + 40 + c.sector - 1 := Int.ediv_le_self _ (by omega)
    have HN := Lib.hid (hN.trans hE.symm)
    clear hN hE
    go_enter Try.func26, Try.ntmps26
    go_wp2
    all_goals go_quiet (fail)
    all_goals go_wp2
    all_goals go_ret
    all_goals exact ⟨ret_intG (by rw [HN.out]), belowN hb0 _⟩

theorem bcellr {W w1 : World} (hb : Below W.heap.size W w1) : ∀ b o, b < W.heap.size → w1.cell? ⟨b, o, none⟩ = W.cell? ⟨b, o, none⟩ := fun b o h => hb.cell (p := ⟨b, o, none⟩) h
theorem nextB {a W w1 : World} (hb : Below W.heap.size W w1) (h : Below a.heap.size a W) : Below a.heap.size a w1 := h.trans (hb.mono h.size)
theorem blobN_pos {s b : Int} (hs : 1 ≤ s) : 1 ≤ blobN s b := by
  unfold blobN
  have : s ≤ (if b < 0 then 0 else b) + 39 + s := by split <;> omega
  exact (Int.le_ediv_iff_mul_le (by omega)).2 (by omega)
theorem blobN_le {s b : Int} (hs : 64 ≤ s) (hb : b ≤ 5000) : blobN s b ≤ 10000 := by
  unfold blobN
  have h1 : ((if b < 0 then 0 else b) + 39 + s) / s ≤ ((if b < 0 then 0 else b) + 39) / s + 1 := by
    rw [Int.add_ediv_of_dvd_right (Int.dvd_refl s), Int.ediv_self (by omega)]
    omega
  have h2 : ((if b < 0 then 0 else b) + 39) / s ≤ (if b < 0 then 0 else b) + 39 := Int.ediv_le_self _ (by split <;> omega)
  have h3 : (if b < 0 then 0 else b) ≤ 5000 := by split <;> omega
  omega
theorem segN_rng (c : Cfg) : 0 ≤ segN c ∧ segN c ≤ 65536 := by
  unfold segN
  split
  · rename_i h
    obtain ⟨h1, h2, h3, h4, h5, h6, h7, h8, h9⟩ := numB_true h
    have hx : 0 ≤ (if c.sectors - 2 - c.journal < 0 then 0 else c.sectors - 2 - c.journal) ∧ (if c.sectors - 2 - c.journal < 0 then 0 else c.sectors - 2 - c.journal) ≤ 65536 := by split <;> omega
    have h10 := Int.ediv_nonneg hx.1 (show 0 ≤ c.segment by omega)
    have h11 := Int.ediv_le_self c.segment hx.1
    omega
  · omega
def checkB (c : Cfg) : Bool := numB c && decide (16 ≤ segN c) && decide (blobN c.sector (c.page + 64) ≤ c.segment)
end Go.Proofs.Ytlbodandidopfaa
