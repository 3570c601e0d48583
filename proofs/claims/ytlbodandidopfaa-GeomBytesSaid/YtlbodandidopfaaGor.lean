/- Contracts of the document's own geometry. Conditions: the numbers fit their kinds. -/
import Derived.Test.YtlbodandidopfaaGof
namespace Go.Proofs.Ytlbodandidopfaa
open Go.ChangeShapes Go.WideShapes Go.ChangeAt Go.RowKit
set_option linter.unusedSimpArgs false
set_option linter.unusedVariables false
set_option maxRecDepth 100000 in
set_option maxHeartbeats 4000000 in
theorem rup_any (a b : Int) (ha : 0 ≤ a) (ha2 : a ≤ 4611686018427387904) (hb : 1 ≤ b) (hb2 : b ≤ 4611686018427387903) (w : World) : Calls Try.prog 72 #[.int .i64 a, .int .i64 b] w fun e w' => e = .returned (.int .i64 ((a + b - 1) / b)) ∧ w = w' := by
  have hne : b ≠ 0 := by omega
  have t0 : (b == 0) = false := by rw [beq_eq_false_iff_ne]; omega
  have hq0 : 0 ≤ (a + b - 1) / b := Int.ediv_nonneg (by omega) (by omega)
  have hq1 : (a + b - 1) / b ≤ a + b - 1 := Int.ediv_le_self _ (by omega)
  go_enter Try.func72, Try.ntmps72
  go_wp2
  go_ret
  exact ⟨rfl, rfl⟩
set_option maxRecDepth 100000 in
set_option maxHeartbeats 4000000 in
theorem rblob_any (c : Cfg) (b : Int) (h1 : 64 ≤ c.sector) (h2 : c.sector ≤ 4096) (b1 : b ≤ 2199023255552) (b0 : -9223372036854775808 ≤ b) (w : World) : Calls Try.prog 27 #[c.val, .int .i64 b] w fun e w' => e = .returned (.int .i64 (blobN c.sector b)) ∧ Below w.heap.size w w' := by
  have hbx := Boxed.new w c
  have hb0 : Below w.heap.size w (w.alloc (.cells (C9 c) 23)) := (Below.refl _ _).alloc (Nat.le_refl _) _
  have HB := Lib.hid hbx
  clear hbx
  unfold C9 at hb0
  by_cases hb : b < 0
  · have hu := fun w1 => rup_any 40 c.sector (by omega) (by omega) (by omega) (by omega) w1
    have hres : blobN c.sector b = (40 + c.sector - 1) / c.sector := by unfold blobN; rw [if_pos hb]; congr 1; omega
    rw [hres]
    have HU := Lib.hid hu
    clear hu hres
    unfold Cfg.val
    obtain ⟨k0, k1, k2, k3, k4, k5, k6, k7, k8⟩ := HB.out.cells
    go_enter Try.func27, Try.ntmps27
    go_wp2_with fail
    refine (HU.out _).mono ?_
    rintro e w1 ⟨rfl, rfl⟩
    go_wp2
    go_ret
    exact ⟨rfl, hb0⟩
  · have hu := fun w1 => rup_any (b + 40) c.sector (by omega) (by omega) (by omega) (by omega) w1
    have hres : blobN c.sector b = (b + 40 + c.sector - 1) / c.sector := by unfold blobN; rw [if_neg hb]; congr 1; omega
    rw [hres]
    have HU := Lib.hid hu
    clear hu hres
    unfold Cfg.val
    obtain ⟨k0, k1, k2, k3, k4, k5, k6, k7, k8⟩ := HB.out.cells
    go_enter Try.func27, Try.ntmps27
    go_wp2_with fail
    refine (HU.out _).mono ?_
    rintro e w1 ⟨rfl, rfl⟩
    go_wp2
    go_ret
    exact ⟨rfl, hb0⟩
set_option maxRecDepth 100000 in
set_option maxHeartbeats 4000000 in
theorem rsegs_any (c : Cfg) (hnum : numB c = true) (w : World) : Calls Try.prog 68 #[c.val] w fun e w' => e = .returned (.int .i64 (segN c)) ∧ Below w.heap.size w w' := by
  obtain ⟨h1, h2, h3, h4, h5, h6, h7, h8, h9⟩ := numB_true hnum
  have hbx := Boxed.new w c
  have hb0 : Below w.heap.size w (w.alloc (.cells (C9 c) 23)) := (Below.refl _ _).alloc (Nat.le_refl _) _
  have HB := Lib.hid hbx
  clear hbx
  unfold C9 at hb0
  have hs : segN c = (if c.sectors - 2 - c.journal < 0 then 0 else c.sectors - 2 - c.journal) / c.segment := by unfold segN; rw [if_pos hnum]
  have hne : c.segment ≠ 0 := by omega
  have t0 : (c.segment == 0) = false := by rw [beq_eq_false_iff_ne]; omega
  clear hnum
  obtain ⟨k0, k1, k2, k3, k4, k5, k6, k7, k8⟩ := HB.out.cells
  by_cases hn : c.sectors - 2 - c.journal < 0
  · rw [if_pos hn, Int.zero_ediv] at hs
    rw [hs]
    clear hs
    unfold Cfg.val
    go_enter Try.func68, Try.ntmps68
    go_wp2
    go_ret
    exact ⟨rfl, hb0⟩
  · rw [if_neg hn] at hs
    rw [hs]
    clear hs
    have hq0 : 0 ≤ (c.sectors - 2 - c.journal) / c.segment := Int.ediv_nonneg (by omega) (by omega)
    have hq1 : (c.sectors - 2 - c.journal) / c.segment ≤ c.sectors - 2 - c.journal := Int.ediv_le_self _ (by omega)
    unfold Cfg.val
    go_enter Try.func68, Try.ntmps68
    go_wp2
    go_ret
    exact ⟨rfl, hb0⟩
set_option maxRecDepth 100000 in
set_option maxHeartbeats 4000000 in
theorem rSegs_any (c : Cfg) (hnum : numB c = true) (w : World) : Calls Try.prog 23 #[c.val] w fun e w' => e = .returned (.int .i64 (segN c)) ∧ Below w.heap.size w w' := by
  have hbx := Boxed.new w c
  have hb0 : Below w.heap.size w (w.alloc (.cells (C9 c) 23)) := (Below.refl _ _).alloc (Nat.le_refl _) _
  have HB := Lib.hid hbx
  clear hbx
  unfold C9 at hb0
  have hh := fun w1 => rsegs_any c hnum w1
  have HH := Lib.hid hh
  clear hh hnum
  obtain ⟨k0, k1, k2, k3, k4, k5, k6, k7, k8⟩ := HB.out.cells
  generalize segN c = sg at *
  unfold Cfg.val at HH ⊢
  go_enter Try.func23, Try.ntmps23
  go_wp2_with fail
  refine (HH.out _).mono ?_
  rintro e w1 ⟨rfl, hb1⟩
  have hB1 := nextB hb1 hb0
  go_wp2
  go_ret
  exact ⟨rfl, hB1⟩
set_option maxRecDepth 100000 in
set_option maxHeartbeats 4000000 in
theorem rjournal_any (c : Cfg) (w : World) : Calls Try.prog 21 #[c.val] w fun e w' => e = .returned (.tuple #[.int .i64 2, .int .i64 c.journal]) ∧ Below w.heap.size w w' := by
  have hbx := Boxed.new w c
  have hb0 : Below w.heap.size w (w.alloc (.cells (C9 c) 23)) := (Below.refl _ _).alloc (Nat.le_refl _) _
  have HB := Lib.hid hbx
  clear hbx
  unfold C9 at hb0
  obtain ⟨k0, k1, k2, k3, k4, k5, k6, k7, k8⟩ := HB.out.cells
  unfold Cfg.val
  go_enter Try.func21, Try.ntmps21
  go_wp2_with fail
  go_quiet (fail)
  go_wp2
  go_ret2
  exact ⟨rfl, belowN hb0 _⟩
set_option maxRecDepth 100000 in
set_option maxHeartbeats 4000000 in
theorem rcheck_any (c : Cfg) (w : World) : Calls Try.prog 17 #[c.val] w fun e w' => e = .returned (.int .i64 (if checkB c = true then 0 else 1)) ∧ Below w.heap.size w w' := by
  have hbx := Boxed.new w c
  have hb0 : Below w.heap.size w (w.alloc (.cells (C9 c) 23)) := (Below.refl _ _).alloc (Nat.le_refl _) _
  have HB := Lib.hid hbx
  clear hbx
  unfold C9 at hb0
  have hp := fun w1 => plain_any c w1
  cases hnum : numB c with
  | false =>
    have hres : checkB c = false := by unfold checkB; rw [hnum]; rfl
    rw [hres]
    rw [hnum] at hp
    have HP := Lib.hid hp
    clear hp hnum hres
    unfold Cfg.val at HP ⊢
    go_enter Try.func17, Try.ntmps17
    go_wp2_with fail
    refine region_inv [none, some (DVal (.bool false)), none, none, none, none, none, none, none, none, none, none, none, none, none, none, none, none] (by kernel_rfl) (by kernel_rfl) ⟨DVal.stable _, trivial⟩ (by kernel_rfl) ?_
    (refine inv_val (by rfl) (by intro w hg hl; obtain ⟨k0, k1, k2, k3, k4, k5, k6, k7, k8⟩ := (Boxed.next hg HB.out).cells; clear hl; go_simp; with_reducible rfl) (fun K hK => ?_); go_simp; refine hK _ ?_; clear hK K)
    refine inv_is (by rfl) (by rfl) (by
        intro w hg hl
        clear hl
        refine gets_sem ?_
        go_simp
        refine (HP.out _).mono ?_
        rintro e w5 ⟨rfl, hb5⟩
        exact ⟨_, rfl, rfl, hb5⟩) (fun K hK => ?_)
    go_simp; refine hK _ ?_; clear hK K
    iterate 2 (refine inv_val (by rfl) (by intro w hg hl; clear hl; go_simp; with_reducible rfl) (fun K hK => ?_); go_simp; refine hK _ ?_; clear hK K)
    (refine inv_not (by rfl) (fun K hK => ?_); go_simp; refine hK _ ?_; clear hK K)
    (refine inv_not (by rfl) (fun K hK => ?_); go_simp; refine hK _ ?_; clear hK K)
    (refine inv_not (by rfl) (fun K hK => ?_); go_simp; refine hK _ ?_; clear hK K)
    iterate 2 (refine inv_val (by rfl) (by intro w hg hl; clear hl; go_simp; with_reducible rfl) (fun K hK => ?_); go_simp; refine hK _ ?_; clear hK K)
    (refine inv_not (by rfl) (fun K hK => ?_); go_simp; refine hK _ ?_; clear hK K)
    (refine inv_not (by rfl) (fun K hK => ?_); go_simp; refine hK _ ?_; clear hK K)
    (refine inv_not (by rfl) (fun K hK => ?_); go_simp; refine hK _ ?_; clear hK K)
    (refine inv_not (by rfl) (fun K hK => ?_); go_simp; refine hK _ ?_; clear hK K)
    (refine inv_not (by rfl) (fun K hK => ?_); go_simp; refine hK _ ?_; clear hK K)
    (refine inv_not (by rfl) (fun K hK => ?_); go_simp; refine hK _ ?_; clear hK K)
    (refine inv_not (by rfl) (fun K hK => ?_); go_simp; refine hK _ ?_; clear hK K)
    (refine inv_not (by rfl) (fun K hK => ?_); go_simp; refine hK _ ?_; clear hK K)
    (refine inv_val (by rfl) (by intro w hg hl; clear hl; go_simp; with_reducible rfl) (fun K hK => ?_); go_simp; refine hK _ ?_; clear hK K)
    intro w7 hg hh
    clear hh
    have hB7 : Below w.heap.size w w7 := nextB hg hb0
    go_wp2
    go_ret
    exact ⟨rfl, hB7⟩
  | true =>
    obtain ⟨h1, h2, h3, h4, h5, h6, h7, h8, h9⟩ := numB_true hnum
    have hs := fun w1 => rsegs_any c hnum w1
    have hbl := fun w1 => rblob_any c (c.page + 64) (by omega) (by omega) (by omega) (by omega) w1
    have hres : checkB c = (decide (16 ≤ segN c) && decide (blobN c.sector (c.page + 64) ≤ c.segment)) := by unfold checkB; rw [hnum]; rfl
    rw [hres]
    rw [hnum] at hp
    have hsr := segN_rng c
    have hbr := blobN_le (s := c.sector) (b := c.page + 64) (by omega) (by omega)
    have hbp := blobN_pos (s := c.sector) (b := c.page + 64) (by omega)
    have HP := Lib.hid hp
    have HS := Lib.hid hs
    have HL := Lib.hid hbl
    clear hp hs hbl hnum hres
    generalize segN c = sg at *
    generalize blobN c.sector (c.page + 64) = bl at *
    unfold Cfg.val at HP HS HL ⊢
    by_cases h16 : 16 ≤ sg
    · have d1 : decide (sg < 16) = false := by simp; omega
      obtain ⟨r, hr⟩ : ∃ r : Int, (if (decide (16 ≤ sg) && decide (bl ≤ c.segment)) = true then (0 : Int) else 1) = r := ⟨_, rfl⟩
      rw [hr]
      have HR := Lib.hid hr
      clear hr
      go_enter Try.func17, Try.ntmps17
      go_wp2_with fail
      refine region_inv [none, some (DVal (.bool true)), none, none, none, some (DVal (.int .i64 sg)), none, none, none, none, none, none, none, none, none, some (DVal (.int .i64 bl)), none, none] (by kernel_rfl) (by kernel_rfl) ⟨DVal.stable _, DVal.stable _, DVal.stable _, trivial⟩ (by kernel_rfl) ?_
      (refine inv_val (by rfl) (by intro w hg hl; obtain ⟨k0, k1, k2, k3, k4, k5, k6, k7, k8⟩ := (Boxed.next hg HB.out).cells; clear hl; go_simp; with_reducible rfl) (fun K hK => ?_); go_simp; refine hK _ ?_; clear hK K)
      refine inv_is (by rfl) (by rfl) (by
          intro w hg hl
          clear hl
          refine gets_sem ?_
          go_simp
          refine (HP.out _).mono ?_
          rintro e w5 ⟨rfl, hb5⟩
          exact ⟨_, rfl, rfl, hb5⟩) (fun K hK => ?_)
      go_simp; refine hK _ ?_; clear hK K
      iterate 2 (refine inv_val (by rfl) (by intro w hg hl; clear hl; go_simp; with_reducible rfl) (fun K hK => ?_); go_simp; refine hK _ ?_; clear hK K)
      (refine inv_val (by rfl) (by intro w hg hl; obtain ⟨k0, k1, k2, k3, k4, k5, k6, k7, k8⟩ := (Boxed.next hg HB.out).cells; clear hl; go_simp; with_reducible rfl) (fun K hK => ?_); go_simp; refine hK _ ?_; clear hK K)
      refine inv_is (by rfl) (by rfl) (by
          intro w hg hl
          clear hl
          refine gets_sem ?_
          go_simp
          refine (HS.out _).mono ?_
          rintro e w5 ⟨rfl, hb5⟩
          exact ⟨_, rfl, rfl, hb5⟩) (fun K hK => ?_)
      go_simp; refine hK _ ?_; clear hK K
      iterate 4 (refine inv_val (by rfl) (by intro w hg hl; clear hl; go_simp; with_reducible rfl) (fun K hK => ?_); go_simp; refine hK _ ?_; clear hK K)
      (refine inv_val (by rfl) (by intro w hg hl; obtain ⟨k0, k1, k2, k3, k4, k5, k6, k7, k8⟩ := (Boxed.next hg HB.out).cells; clear hl; go_simp; with_reducible rfl) (fun K hK => ?_); go_simp; refine hK _ ?_; clear hK K)
      (refine inv_val (by rfl) (by intro w hg hl; obtain ⟨k0, k1, k2, k3, k4, k5, k6, k7, k8⟩ := (Boxed.next hg HB.out).cells; clear hl; go_simp; with_reducible rfl) (fun K hK => ?_); go_simp; refine hK _ ?_; clear hK K)
      (refine inv_val (by rfl) (by intro w hg hl; clear hl; go_simp; with_reducible rfl) (fun K hK => ?_); go_simp; refine hK _ ?_; clear hK K)
      (refine inv_val (by rfl) (by intro w hg hl; obtain ⟨k0, k1, k2, k3, k4, k5, k6, k7, k8⟩ := (Boxed.next hg HB.out).cells; clear hl; go_simp; with_reducible rfl) (fun K hK => ?_); go_simp; refine hK _ ?_; clear hK K)
      (refine inv_val (by rfl) (by intro w hg hl; have e1 : IntKind.i64.wrap (c.page + 64) = c.page + 64 := IntWalk.i64_in _ (by omega); clear hl; go_simp; with_reducible rfl) (fun K hK => ?_); go_simp; refine hK _ ?_; clear hK K)
      refine inv_is (by rfl) (by rfl) (by
          intro w hg hl
          clear hl
          refine gets_sem ?_
          go_simp
          refine (HL.out _).mono ?_
          rintro e w5 ⟨rfl, hb5⟩
          exact ⟨_, rfl, rfl, hb5⟩) (fun K hK => ?_)
      go_simp; refine hK _ ?_; clear hK K
      iterate 2 (refine inv_val (by rfl) (by intro w hg hl; clear hl; go_simp; with_reducible rfl) (fun K hK => ?_); go_simp; refine hK _ ?_; clear hK K)
      intro w7 hg hh
      clear hh
      have hB7 : Below w.heap.size w w7 := nextB hg hb0
      by_cases hle : bl ≤ c.segment
      · have d2 : decide (c.segment < bl) = false := by simp; omega
        go_wp2
        go_ret
        exact ⟨ret_intG (by rw [← HR.out]; simp [h16, hle]), hB7⟩
      · have d2 : decide (c.segment < bl) = true := by simp; omega
        go_wp2
        go_ret
        exact ⟨ret_intG (by rw [← HR.out]; simp [h16, hle]), hB7⟩
    · have d1 : decide (sg < 16) = yes := by simp; omega
      rw [if_neg (by simp [h16])]
      go_enter Try.func17, Try.ntmps17
      go_wp2_with fail
      refine region_inv [none, some (DVal (.bool true)), none, none, none, some (DVal (.int .i64 sg)), none, none, none, none, none, none, none, none, none, none, none, none] (by kernel_rfl) (by kernel_rfl) ⟨DVal.stable _, DVal.stable _, trivial⟩ (by kernel_rfl) ?_
      (refine inv_val (by rfl) (by intro w hg hl; obtain ⟨k0, k1, k2, k3, k4, k5, k6, k7, k8⟩ := (Boxed.next hg HB.out).cells; clear hl; go_simp; with_reducible rfl) (fun K hK => ?_); go_simp; refine hK _ ?_; clear hK K)
      refine inv_is (by rfl) (by rfl) (by
          intro w hg hl
          clear hl
          refine gets_sem ?_
          go_simp
          refine (HP.out _).mono ?_
          rintro e w5 ⟨rfl, hb5⟩
          exact ⟨_, rfl, rfl, hb5⟩) (fun K hK => ?_)
      go_simp; refine hK _ ?_; clear hK K
      iterate 2 (refine inv_val (by rfl) (by intro w hg hl; clear hl; go_simp; with_reducible rfl) (fun K hK => ?_); go_simp; refine hK _ ?_; clear hK K)
      (refine inv_val (by rfl) (by intro w hg hl; obtain ⟨k0, k1, k2, k3, k4, k5, k6, k7, k8⟩ := (Boxed.next hg HB.out).cells; clear hl; go_simp; with_reducible rfl) (fun K hK => ?_); go_simp; refine hK _ ?_; clear hK K)
      refine inv_is (by rfl) (by rfl) (by
          intro w hg hl
          clear hl
          refine gets_sem ?_
          go_simp
          refine (HS.out _).mono ?_
          rintro e w5 ⟨rfl, hb5⟩
          exact ⟨_, rfl, rfl, hb5⟩) (fun K hK => ?_)
      go_simp; refine hK _ ?_; clear hK K
      iterate 3 (refine inv_val (by rfl) (by intro w hg hl; clear hl; go_simp; with_reducible rfl) (fun K hK => ?_); go_simp; refine hK _ ?_; clear hK K)
      (refine inv_not (by rfl) (fun K hK => ?_); go_simp; refine hK _ ?_; clear hK K)
      (refine inv_not (by rfl) (fun K hK => ?_); go_simp; refine hK _ ?_; clear hK K)
      (refine inv_not (by rfl) (fun K hK => ?_); go_simp; refine hK _ ?_; clear hK K)
      (refine inv_not (by rfl) (fun K hK => ?_); go_simp; refine hK _ ?_; clear hK K)
      (refine inv_not (by rfl) (fun K hK => ?_); go_simp; refine hK _ ?_; clear hK K)
      (refine inv_not (by rfl) (fun K hK => ?_); go_simp; refine hK _ ?_; clear hK K)
      (refine inv_not (by rfl) (fun K hK => ?_); go_simp; refine hK _ ?_; clear hK K)
      (refine inv_not (by rfl) (fun K hK => ?_); go_simp; refine hK _ ?_; clear hK K)
      (refine inv_val (by rfl) (by intro w hg hl; clear hl; go_simp; with_reducible rfl) (fun K hK => ?_); go_simp; refine hK _ ?_; clear hK K)
      intro w7 hg hh
      clear hh
      have hB7 : Below w.heap.size w w7 := nextB hg hb0
      go_wp2
      go_ret
      exact ⟨rfl, hB7⟩
set_option maxRecDepth 100000 in
set_option maxHeartbeats 4000000 in
theorem rof_any6 (c : Cfg) (s : Int) (hck : checkB c = true) (s0 : -9223372036854775808 ≤ s) (s1 : s ≤ 9223372036854775807) (w : World) : Calls Try.prog 25 #[c.val, .int .i64 s] w fun e w' => e = .returned (.int .i64 (ofN c s)) ∧ Below w.heap.size w w' := by
  obtain ⟨hnum, hge, hle⟩ := checkB_true hck
  obtain ⟨h1, h2, h3, h4, h5, h6, h7, h8, h9⟩ := numB_true hnum
  have hbx := Boxed.new w c
  have hb0 : Below w.heap.size w (w.alloc (.cells (C9 c) 23)) := (Below.refl _ _).alloc (Nat.le_refl _) _
  have HB := Lib.hid hbx
  clear hbx
  unfold C9 at hb0
  have hs := fun w1 => rsegs_any c hnum w1
  have hsr := segN_rng c
  have HS := Lib.hid hs
  have hne : c.segment ≠ 0 := by omega
  have t0 : (c.segment == 0) = false := by rw [beq_eq_false_iff_ne]; omega
  have hofN : ofN c s = if s < 2 + c.journal then -1 else if segN c ≤ (s - (2 + c.journal)) / c.segment then -1 else (s - (2 + c.journal)) / c.segment := rfl
  clear hs hnum hck hle
  generalize segN c = sg at *
  generalize ofN c s = os at *
  subst hofN
  unfold Cfg.val at HS ⊢
  obtain ⟨k0, k1, k2, k3, k4, k5, k6, k7, k8⟩ := HB.out.cells
  by_cases hs0 : s < 0
  · rw [if_pos (show s < 2 + c.journal by omega)]
    have d1 : decide (s < 0) = yes := by simp; omega
    go_enter Try.func25, Try.ntmps25
    go_wp2_with fail
    refine region_inv [none, none, none, none, none, none, none, none, none, none, none, none, none, none, none] (by kernel_rfl) (by kernel_rfl) trivial (by kernel_rfl) ?_
    iterate 3 (refine inv_val (by rfl) (by intro w hg hl; clear hl; go_simp; with_reducible rfl) (fun K hK => ?_); go_simp; refine hK _ ?_; clear hK K)
    (refine inv_not (by rfl) (fun K hK => ?_); go_simp; refine hK _ ?_; clear hK K)
    (refine inv_not (by rfl) (fun K hK => ?_); go_simp; refine hK _ ?_; clear hK K)
    iterate 2 (refine inv_val (by rfl) (by intro w hg hl; clear hl; go_simp; with_reducible rfl) (fun K hK => ?_); go_simp; refine hK _ ?_; clear hK K)
    (refine inv_not (by rfl) (fun K hK => ?_); go_simp; refine hK _ ?_; clear hK K)
    (refine inv_not (by rfl) (fun K hK => ?_); go_simp; refine hK _ ?_; clear hK K)
    (refine inv_not (by rfl) (fun K hK => ?_); go_simp; refine hK _ ?_; clear hK K)
    (refine inv_not (by rfl) (fun K hK => ?_); go_simp; refine hK _ ?_; clear hK K)
    (refine inv_not (by rfl) (fun K hK => ?_); go_simp; refine hK _ ?_; clear hK K)
    (refine inv_not (by rfl) (fun K hK => ?_); go_simp; refine hK _ ?_; clear hK K)
    (refine inv_not (by rfl) (fun K hK => ?_); go_simp; refine hK _ ?_; clear hK K)
    (refine inv_val (by rfl) (by intro w hg hl; clear hl; go_simp; with_reducible rfl) (fun K hK => ?_); go_simp; refine hK _ ?_; clear hK K)
    intro w7 hg hh
    clear hh
    have hB7 : Below w.heap.size w w7 := nextB hg hb0
    go_wp2
    go_ret
    exact ⟨rfl, hB7⟩
  · have d1 : decide (s < 0) = false := by simp; omega
    by_cases hlt : s < 2 + c.journal
    · rw [if_pos hlt]
      have d2 : decide (s - 2 - c.journal < 0) = yes := by simp; omega
      go_enter Try.func25, Try.ntmps25
      go_wp2_with fail
      refine region_inv [none, none, none, none, none, none, none, none, none, none, none, none, none, none, none] (by kernel_rfl) (by kernel_rfl) trivial (by kernel_rfl) ?_
      iterate 7 (refine inv_val (by rfl) (by intro w hg hl; clear hl; go_simp; with_reducible rfl) (fun K hK => ?_); go_simp; refine hK _ ?_; clear hK K)
      (refine inv_not (by rfl) (fun K hK => ?_); go_simp; refine hK _ ?_; clear hK K)
      (refine inv_not (by rfl) (fun K hK => ?_); go_simp; refine hK _ ?_; clear hK K)
      (refine inv_not (by rfl) (fun K hK => ?_); go_simp; refine hK _ ?_; clear hK K)
      (refine inv_not (by rfl) (fun K hK => ?_); go_simp; refine hK _ ?_; clear hK K)
      (refine inv_not (by rfl) (fun K hK => ?_); go_simp; refine hK _ ?_; clear hK K)
      (refine inv_not (by rfl) (fun K hK => ?_); go_simp; refine hK _ ?_; clear hK K)
      (refine inv_not (by rfl) (fun K hK => ?_); go_simp; refine hK _ ?_; clear hK K)
      (refine inv_val (by rfl) (by intro w hg hl; clear hl; go_simp; with_reducible rfl) (fun K hK => ?_); go_simp; refine hK _ ?_; clear hK K)
      intro w7 hg hh
      clear hh
      have hB7 : Below w.heap.size w w7 := nextB hg hb0
      go_wp2
      go_ret
      exact ⟨rfl, hB7⟩
    · rw [if_neg hlt]
      have d2 : decide (s - 2 - c.journal < 0) = false := by simp; omega
      have e0 : s - (2 + c.journal) = s - 2 - c.journal := by omega
      rw [e0]
      clear e0
      have hq0 : 0 ≤ (s - 2 - c.journal) / c.segment := Int.ediv_nonneg (by omega) (by omega)
      have hq1 : (s - 2 - c.journal) / c.segment ≤ s - 2 - c.journal := Int.ediv_le_self _ (by omega)
      go_enter Try.func25, Try.ntmps25
      go_wp2_with fail
      refine region_inv [none, none, none, none, none, none, none, none, none, none, none, none, some (DVal (.int .i64 sg)), none, none] (by kernel_rfl) (by kernel_rfl) ⟨DVal.stable _, trivial⟩ (by kernel_rfl) ?_
      iterate 9 (refine inv_val (by rfl) (by intro w hg hl; clear hl; go_simp; with_reducible rfl) (fun K hK => ?_); go_simp; refine hK _ ?_; clear hK K)
      (refine inv_val (by rfl) (by intro w hg hl; obtain ⟨k0, k1, k2, k3, k4, k5, k6, k7, k8⟩ := (Boxed.next hg HB.out).cells; clear hl; go_simp; with_reducible rfl) (fun K hK => ?_); go_simp; refine hK _ ?_; clear hK K)
      (refine inv_val (by rfl) (by intro w hg hl; have e2 : (s - 2 - c.journal).tdiv c.segment = (s - 2 - c.journal) / c.segment := Int.tdiv_eq_ediv_of_nonneg (by omega); have e3 : IntKind.i64.wrap ((s - 2 - c.journal) / c.segment) = (s - 2 - c.journal) / c.segment := IntWalk.i64_in _ (by omega); clear hl; go_simp; with_reducible rfl) (fun K hK => ?_); go_simp; refine hK _ ?_; clear hK K)
      (refine inv_val (by rfl) (by intro w hg hl; obtain ⟨k0, k1, k2, k3, k4, k5, k6, k7, k8⟩ := (Boxed.next hg HB.out).cells; clear hl; go_simp; with_reducible rfl) (fun K hK => ?_); go_simp; refine hK _ ?_; clear hK K)
      refine inv_is (by rfl) (by rfl) (by
          intro w hg hl
          clear hl
          refine gets_sem ?_
          go_simp
          refine (HS.out _).mono ?_
          rintro e w5 ⟨rfl, hb5⟩
          exact ⟨_, rfl, rfl, hb5⟩) (fun K hK => ?_)
      go_simp; refine hK _ ?_; clear hK K
      iterate 2 (refine inv_val (by rfl) (by intro w hg hl; clear hl; go_simp; with_reducible rfl) (fun K hK => ?_); go_simp; refine hK _ ?_; clear hK K)
      intro w7 hg hh
      clear hh k0 k1 k2 k3 k4 k5 k6 k7 k8
      have hB7 : Below w.heap.size w w7 := nextB hg hb0
      obtain ⟨k0, k1, k2, k3, k4, k5, k6, k7, k8⟩ := (Boxed.next hg HB.out).cells
      by_cases hcc : sg ≤ (s - 2 - c.journal) / c.segment
      all_goals go_wp2
      all_goals go_ret
      all_goals first | exact ⟨rfl, hB7⟩ | exact ⟨ret_intG (by simp [hcc]), hB7⟩
set_option maxRecDepth 100000 in
set_option maxHeartbeats 4000000 in
theorem rk_any (c : Cfg) (w : World) : Calls Try.prog 19 #[c.val] w fun e w' => e = .returned (.int .i64 (kN c)) ∧ Below w.heap.size w w' := by
  have hbx := Boxed.new w c
  have hb0 : Below w.heap.size w (w.alloc (.cells (C9 c) 23)) := (Below.refl _ _).alloc (Nat.le_refl _) _
  have HB := Lib.hid hbx
  clear hbx
  unfold C9 at hb0
  have hck := fun w1 => rcheck_any c w1
  obtain ⟨k0, k1, k2, k3, k4, k5, k6, k7, k8⟩ := HB.out.cells
  by_cases h : checkB c = true
  · obtain ⟨hnum, hge, hle⟩ := checkB_true h
    obtain ⟨h1, h2, h3, h4, h5, h6, h7, h8, h9⟩ := numB_true hnum
    rw [if_pos h] at hck
    have hbl := fun w1 => rblob_any c (c.page + 64) (by omega) (by omega) (by omega) (by omega) w1
    have hs := fun w1 => rsegs_any c hnum w1
    have hsr := segN_rng c
    have hbp := blobN_pos (s := c.sector) (b := c.page + 64) (by omega)
    have hres : kN c = (segN c - 8) * (c.segment / blobN c.sector (c.page + 64)) / 24 := by unfold kN; rw [if_pos h]
    rw [hres]
    have HCK := Lib.hid hck
    have HS := Lib.hid hs
    have HBL := Lib.hid hbl
    clear hck hs hbl hres h hnum
    unfold Cfg.val at HCK HS HBL ⊢
    generalize segN c = sg at *
    generalize blobN c.sector (c.page + 64) = bl at *
    have hne : bl ≠ 0 := by omega
    have t0 : (bl == 0) = false := by rw [beq_eq_false_iff_ne]; omega
    have he0 : 0 ≤ c.segment / bl := Int.ediv_nonneg (by omega) (by omega)
    have he1 : c.segment / bl ≤ c.segment := Int.ediv_le_self _ (by omega)
    have hp0 : 0 ≤ (sg - 8) * (c.segment / bl) := Int.mul_nonneg (by omega) he0
    have hp1 : (sg - 8) * (c.segment / bl) ≤ 65536 * 4096 := Int.mul_le_mul (by omega) (by omega) he0 (by omega)
    have hq1 : (sg - 8) * (c.segment / bl) / 24 ≤ (sg - 8) * (c.segment / bl) := Int.ediv_le_self _ (by omega)
    have hq0 : 0 ≤ (sg - 8) * (c.segment / bl) / 24 := Int.ediv_nonneg hp0 (by omega)
    go_enter Try.func19, Try.ntmps19
    go_wp2_with fail
    refine (HCK.out _).mono ?_
    rintro e w1 ⟨rfl, hb1⟩
    have HB1 := Lib.hid (Boxed.next hb1 HB.out)
    have hB1 : Below w.heap.size w w1 := nextB hb1 hb0
    clear k0 k1 k2 k3 k4 k5 k6 k7 k8
    go_wp2
    refine region_inv [none, some (DVal (.int .i64 sg)), none, none, none, none, none, none, none, some (DVal (.int .i64 bl)), none, none, none, none] (by kernel_rfl) (by kernel_rfl) ⟨DVal.stable _, DVal.stable _, trivial⟩ (by kernel_rfl) ?_
    (refine inv_val (by rfl) (by intro w hg hl; obtain ⟨k0, k1, k2, k3, k4, k5, k6, k7, k8⟩ := (Boxed.next hg HB1.out).cells; clear hl; go_simp; with_reducible rfl) (fun K hK => ?_); go_simp; refine hK _ ?_; clear hK K)
    refine inv_is (by rfl) (by rfl) (by
        intro w hg hl
        clear hl
        refine gets_sem ?_
        go_simp
        refine (HS.out _).mono ?_
        rintro e w5 ⟨rfl, hb5⟩
        exact ⟨_, rfl, rfl, hb5⟩) (fun K hK => ?_)
    go_simp; refine hK _ ?_; clear hK K
    (refine inv_val (by rfl) (by intro w hg hl; have e1 : IntKind.i64.wrap (sg - 8) = sg - 8 := IntWalk.i64_in _ (by omega); clear hl; go_simp; with_reducible rfl) (fun K hK => ?_); go_simp; refine hK _ ?_; clear hK K)
    (refine inv_val (by rfl) (by intro w hg hl; clear hl; go_simp; with_reducible rfl) (fun K hK => ?_); go_simp; refine hK _ ?_; clear hK K)
    (refine inv_val (by rfl) (by intro w hg hl; obtain ⟨k0, k1, k2, k3, k4, k5, k6, k7, k8⟩ := (Boxed.next hg HB1.out).cells; clear hl; go_simp; with_reducible rfl) (fun K hK => ?_); go_simp; refine hK _ ?_; clear hK K)
    (refine inv_val (by rfl) (by intro w hg hl; obtain ⟨k0, k1, k2, k3, k4, k5, k6, k7, k8⟩ := (Boxed.next hg HB1.out).cells; clear hl; go_simp; with_reducible rfl) (fun K hK => ?_); go_simp; refine hK _ ?_; clear hK K)
    (refine inv_val (by rfl) (by intro w hg hl; clear hl; go_simp; with_reducible rfl) (fun K hK => ?_); go_simp; refine hK _ ?_; clear hK K)
    (refine inv_val (by rfl) (by intro w hg hl; obtain ⟨k0, k1, k2, k3, k4, k5, k6, k7, k8⟩ := (Boxed.next hg HB1.out).cells; clear hl; go_simp; with_reducible rfl) (fun K hK => ?_); go_simp; refine hK _ ?_; clear hK K)
    (refine inv_val (by rfl) (by intro w hg hl; have e1 : IntKind.i64.wrap (c.page + 64) = c.page + 64 := IntWalk.i64_in _ (by omega); clear hl; go_simp; with_reducible rfl) (fun K hK => ?_); go_simp; refine hK _ ?_; clear hK K)
    refine inv_is (by rfl) (by rfl) (by
        intro w hg hl
        clear hl
        refine gets_sem ?_
        go_simp
        refine (HBL.out _).mono ?_
        rintro e w5 ⟨rfl, hb5⟩
        exact ⟨_, rfl, rfl, hb5⟩) (fun K hK => ?_)
    go_simp; refine hK _ ?_; clear hK K
    (refine inv_val (by rfl) (by intro w hg hl; have e2 : c.segment.tdiv bl = c.segment / bl := Int.tdiv_eq_ediv_of_nonneg (by omega); have e3 : IntKind.i64.wrap (c.segment / bl) = c.segment / bl := IntWalk.i64_in _ (by omega); clear hl; go_simp; with_reducible rfl) (fun K hK => ?_); go_simp; refine hK _ ?_; clear hK K)
    (refine inv_val (by rfl) (by intro w hg hl; have e4 : IntKind.i64.wrap ((sg - 8) * (c.segment / bl)) = (sg - 8) * (c.segment / bl) := IntWalk.i64_in _ (by omega); clear hl; go_simp; with_reducible rfl) (fun K hK => ?_); go_simp; refine hK _ ?_; clear hK K)
    (refine inv_val (by rfl) (by intro w hg hl; have e5 : ((sg - 8) * (c.segment / bl)).tdiv 24 = (sg - 8) * (c.segment / bl) / 24 := Int.tdiv_eq_ediv_of_nonneg (by omega); have e6 : IntKind.i64.wrap ((sg - 8) * (c.segment / bl) / 24) = (sg - 8) * (c.segment / bl) / 24 := IntWalk.i64_in _ (by omega); clear hl; go_simp; with_reducible rfl) (fun K hK => ?_); go_simp; refine hK _ ?_; clear hK K)
    (refine inv_val (by rfl) (by intro w hg hl; clear hl; go_simp; with_reducible rfl) (fun K hK => ?_); go_simp; refine hK _ ?_; clear hK K)
    intro w7 hg hh
    clear hh
    have hB7 : Below w.heap.size w w7 := nextB hg hB1
    go_wp2
    go_ret
    exact ⟨rfl, hB7⟩
  · have hres : kN c = 0 := by unfold kN; rw [if_neg h]
    rw [hres]
    rw [if_neg h] at hck
    have HCK := Lib.hid hck
    clear hck hres h
    unfold Cfg.val at HCK ⊢
    go_enter Try.func19, Try.ntmps19
    go_wp2_with fail
    refine (HCK.out _).mono ?_
    rintro e w1 ⟨rfl, hb1⟩
    have hB1 : Below w.heap.size w w1 := nextB hb1 hb0
    go_wp2
    go_ret
    exact ⟨rfl, hB1⟩
set_option maxRecDepth 100000 in
set_option maxHeartbeats 4000000 in
theorem rsegment_any (c : Cfg) (k : Int) (w : World) : Calls Try.prog 15 #[c.val, .int .i64 k] w fun e w' => e = .returned (if checkB c = true ∧ 0 ≤ k ∧ k < segN c then .tuple #[.int .i64 (2 + c.journal + k * c.segment), .int .i64 c.segment, .int .i64 0] else .tuple #[.int .i64 0, .int .i64 0, .int .i64 1]) ∧ Below w.heap.size w w' := by
  have hbx := Boxed.new w c
  have hb0 : Below w.heap.size w (w.alloc (.cells (C9 c) 23)) := (Below.refl _ _).alloc (Nat.le_refl _) _
  have HB := Lib.hid hbx
  clear hbx
  unfold C9 at hb0
  have hck := fun w1 => rcheck_any c w1
  obtain ⟨k0, k1, k2, k3, k4, k5, k6, k7, k8⟩ := HB.out.cells
  by_cases h : checkB c = true
  · obtain ⟨hnum, hge, hle⟩ := checkB_true h
    obtain ⟨h1, h2, h3, h4, h5, h6, h7, h8, h9⟩ := numB_true hnum
    rw [if_pos h] at hck
    have hs := fun w1 => rsegs_any c hnum w1
    have hsr := segN_rng c
    have HCK := Lib.hid hck
    have HS := Lib.hid hs
    have H := Lib.hid h
    clear hck hs hnum h hle
    unfold Cfg.val at HCK HS ⊢
    have hcase : (checkB c = true ∧ 0 ≤ k ∧ k < segN c) ↔ (0 ≤ k ∧ k < segN c) := ⟨fun hh => hh.2, fun hh => ⟨H.out, hh⟩⟩
    rw [show (if checkB c = true ∧ 0 ≤ k ∧ k < segN c then (Value.tuple #[.int .i64 (2 + c.journal + k * c.segment), .int .i64 c.segment, .int .i64 0]) else .tuple #[.int .i64 0, .int .i64 0, .int .i64 1]) = (if 0 ≤ k ∧ k < segN c then (Value.tuple #[.int .i64 (2 + c.journal + k * c.segment), .int .i64 c.segment, .int .i64 0]) else .tuple #[.int .i64 0, .int .i64 0, .int .i64 1]) from by simp only [hcase]]
    clear hcase H
    generalize segN c = sg at *
    by_cases hk0 : k < 0
    · rw [if_neg (by omega)]
      have d1 : decide (k < 0) = yes := by simp; omega
      go_enter Try.func15, Try.ntmps15
      go_wp2_with fail
      refine (HCK.out _).mono ?_
      rintro e w1 ⟨rfl, hb1⟩
      have hB1 : Below w.heap.size w w1 := nextB hb1 hb0
      go_wp2
      go_ret3
      exact ⟨rfl, hB1⟩
    · have d1 : decide (k < 0) = false := by simp; omega
      by_cases hk1 : k < sg
      · rw [if_pos (by omega)]
        have d2 : decide (sg ≤ k) = false := by simp; omega
        have hp0 : 0 ≤ k * c.segment := Int.mul_nonneg (by omega) (by omega)
        have hp1 : k * c.segment ≤ 65536 * 4096 := Int.mul_le_mul (by omega) (by omega) (by omega) (by omega)
        go_enter Try.func15, Try.ntmps15
        go_wp2_with fail
        refine (HCK.out _).mono ?_
        rintro e w1 ⟨rfl, hb1⟩
        have HB1 := Lib.hid (Boxed.next hb1 HB.out)
        have hB1 : Below w.heap.size w w1 := nextB hb1 hb0
        clear k0 k1 k2 k3 k4 k5 k6 k7 k8
        obtain ⟨k0, k1, k2, k3, k4, k5, k6, k7, k8⟩ := HB1.out.cells
        go_wp2_with fail
        refine (HS.out _).mono ?_
        rintro e w2 ⟨rfl, hb2⟩
        have hB2 : Below w.heap.size w w2 := nextB hb2 hB1
        have HB2 := Lib.hid (Boxed.next hb2 HB1.out)
        clear k0 k1 k2 k3 k4 k5 k6 k7 k8
        obtain ⟨k0, k1, k2, k3, k4, k5, k6, k7, k8⟩ := HB2.out.cells
        have e1 : IntKind.i64.wrap (2 + c.journal) = 2 + c.journal := IntWalk.i64_in _ (by omega)
        have e2 : IntKind.i64.wrap (k * c.segment) = k * c.segment := IntWalk.i64_in _ (by omega)
        have e3 : IntKind.i64.wrap (2 + c.journal + k * c.segment) = 2 + c.journal + k * c.segment := IntWalk.i64_in _ (by omega)
        go_wp2
        go_quiet (fail)
        go_wp2
        go_ret3
        exact ⟨rfl, belowN hB2 _⟩
      · rw [if_neg (by omega)]
        have d2 : decide (sg ≤ k) = true := by simp; omega
        go_enter Try.func15, Try.ntmps15
        go_wp2_with fail
        refine (HCK.out _).mono ?_
        rintro e w1 ⟨rfl, hb1⟩
        have HB1 := Lib.hid (Boxed.next hb1 HB.out)
        have hB1 : Below w.heap.size w w1 := nextB hb1 hb0
        clear k0 k1 k2 k3 k4 k5 k6 k7 k8
        obtain ⟨k0, k1, k2, k3, k4, k5, k6, k7, k8⟩ := HB1.out.cells
        go_wp2_with fail
        refine (HS.out _).mono ?_
        rintro e w2 ⟨rfl, hb2⟩
        have hB2 : Below w.heap.size w w2 := nextB hb2 hB1
        go_wp2
        go_ret3
        exact ⟨rfl, hB2⟩
  · rw [if_neg (by simp [h])]
    rw [if_neg h] at hck
    have HCK := Lib.hid hck
    clear hck h
    unfold Cfg.val at HCK ⊢
    go_enter Try.func15, Try.ntmps15
    go_wp2_with fail
    refine (HCK.out _).mono ?_
    rintro e w1 ⟨rfl, hb1⟩
    have hB1 : Below w.heap.size w w1 := nextB hb1 hb0
    go_wp2
    go_ret3
    exact ⟨rfl, hB1⟩
end Go.Proofs.Ytlbodandidopfaa
