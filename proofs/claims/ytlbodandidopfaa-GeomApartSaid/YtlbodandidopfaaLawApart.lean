/- The law GeomApart answers true for any shape, any number and any sector: each sector behind the journal is in one segment at most; segments lie side by side, within the disk. Conditions: none. -/
import Derived.Test.YtlbodandidopfaaGop
import Derived.Test.YtlbodandidopfaaGof
import Derived.Deep.DeepCutAuto
import Derived.Deep.CutRange
namespace Go.Proofs.Ytlbodandidopfaa.lawGeomApart
open Go.ChangeShapes Go.WideShapes Go.ChangeAt Go.RowKit
set_option linter.unusedSimpArgs false
set_option linter.unusedVariables false

theorem own : ownKnob Try.prog.godebug = none := by kernel_rfl
theorem laid : laidOutB Try.prog = true := by kernel_rfl

theorem ret_bool {a b : Bool} (h : a = b) : Ending.returned (.bool a) = .returned (.bool b) := by rw [h]
theorem segN_eqA {c : Cfg} (h : numB c = true) (h16 : 16 ≤ segN c) : 0 ≤ c.sectors - 2 - c.journal ∧ segN c = (c.sectors - 2 - c.journal) / c.segment := by
  obtain ⟨h1, h2, h3, h4, h5, h6, h7, h8, h9⟩ := numB_true h
  have hs : segN c = (if c.sectors - 2 - c.journal < 0 then 0 else c.sectors - 2 - c.journal) / c.segment := by unfold segN; rw [if_pos h]
  by_cases hn : c.sectors - 2 - c.journal < 0
  · rw [if_pos hn] at hs
    have : (0 : Int) / c.segment = 0 := by simp
    omega
  · rw [if_neg hn] at hs
    exact ⟨by omega, hs⟩
theorem ofN_in {c : Cfg} {k s : Int} (hs : 1 ≤ c.segment) (k0 : 0 ≤ k) (k1 : k < segN c) (s0 : 2 + c.journal + k * c.segment ≤ s) (s1 : s < 2 + c.journal + k * c.segment + c.segment) : ofN c s = k := by
  have hkp : 0 ≤ k * c.segment := Int.mul_nonneg k0 (by omega)
  have hd : (s - (2 + c.journal)) / c.segment = k := by
    have e : s - (2 + c.journal) = (s - (2 + c.journal) - k * c.segment) + k * c.segment := by omega
    rw [e, Int.add_mul_ediv_right _ _ (by omega), Int.ediv_eq_zero_of_lt (by omega) (by omega)]
    omega
  unfold ofN
  rw [if_neg (by omega), hd, if_neg (by omega)]
theorem ofN_out {c : Cfg} {k s : Int} (hs : 1 ≤ c.segment) (k0 : 0 ≤ k) (h : ofN c s = k) : 2 + c.journal + k * c.segment ≤ s ∧ s < 2 + c.journal + k * c.segment + c.segment := by
  unfold ofN at h
  split at h
  · omega
  split at h
  · omega
  have h1 := Int.mul_ediv_add_emod (s - (2 + c.journal)) c.segment
  have h2 := Int.emod_nonneg (s - (2 + c.journal)) (b := c.segment) (by omega)
  have h3 := Int.emod_lt_of_pos (s - (2 + c.journal)) (b := c.segment) (by omega)
  rw [h, Int.mul_comm] at h1
  omega
theorem kN_pos {c : Cfg} (h : checkB c = true) : 0 ≤ kN c ∧ kN c ≤ 65536 * 4096 := by
  obtain ⟨hnum, hge, hle⟩ := checkB_true h
  obtain ⟨h1, h2, h3, h4, h5, h6, h7, h8, h9⟩ := numB_true hnum
  have hsr := segN_rng c
  have hbp := blobN_pos (s := c.sector) (b := c.page + 64) (by omega)
  have he0 : 0 ≤ c.segment / blobN c.sector (c.page + 64) := Int.ediv_nonneg (by omega) (by omega)
  have he1 : c.segment / blobN c.sector (c.page + 64) ≤ c.segment := Int.ediv_le_self _ (by omega)
  have hp0 : 0 ≤ (segN c - 8) * (c.segment / blobN c.sector (c.page + 64)) := Int.mul_nonneg (by omega) he0
  have hp1 : (segN c - 8) * (c.segment / blobN c.sector (c.page + 64)) ≤ 65536 * 4096 := Int.mul_le_mul (by omega) (by omega) he0 (by omega)
  unfold kN
  rw [if_pos h]
  exact ⟨Int.ediv_nonneg hp0 (by omega), by have := Int.ediv_le_self 24 hp0; omega⟩
theorem place_le {c : Cfg} {k : Int} (hn : numB c = true) (h16 : 16 ≤ segN c) (k1 : k < segN c) : k * c.segment + c.segment ≤ c.sectors - 2 - c.journal := by
  obtain ⟨h0, hs⟩ := segN_eqA hn h16
  obtain ⟨h1, h2, h3, h4, h5, h6, h7, h8, h9⟩ := numB_true hn
  have e1 := Int.mul_ediv_add_emod (c.sectors - 2 - c.journal) c.segment
  have e2 := Int.emod_nonneg (c.sectors - 2 - c.journal) (b := c.segment) (by omega)
  rw [← hs] at e1
  have e3 : (k + 1) * c.segment ≤ segN c * c.segment := Int.mul_le_mul_of_nonneg_right (by omega) (by omega)
  rw [Int.add_mul, Int.one_mul] at e3
  rw [Int.mul_comm] at e1
  omega
set_option maxRecDepth 100000 in
set_option maxHeartbeats 16000000 in
theorem walk (c : Cfg) (hf : c.Fits) (k : Int) (wk : (Lit.int .i64 k).wf = true) (s : Int) (ws : (Lit.int .i64 s).wf = true) (w : World) :
    Calls Try.prog 5 #[c.val, .int .i64 k, .int .i64 s] w fun e w' => e = .returned (.bool true) ∧ Below w.heap.size w w' := by
  obtain ⟨hk0, hk1⟩ : -9223372036854775808 ≤ k ∧ k ≤ 9223372036854775807 := by simpa [Lit.wf, IntKind.min, IntKind.max, IntKind.signed, IntKind.bits] using wk
  obtain ⟨hs0, hs1⟩ : -9223372036854775808 ≤ s ∧ s ≤ 9223372036854775807 := by simpa [Lit.wf, IntKind.min, IntKind.max, IntKind.signed, IntKind.bits] using ws
  have hck := fun w1 => check_any c w1
  have hkc := fun w1 => k_any c w1
  have hbx := Boxed.new w c
  have hb0 : Below w.heap.size w (w.alloc (.cells (C9 c) 23)) := (Below.refl _ _).alloc (Nat.le_refl _) _
  have HB := Lib.hid hbx
  have HB2 := Lib.hid hb0
  clear hbx hb0
  by_cases h : checkB c = true
  · rw [if_pos h] at hck
    obtain ⟨hnum, hge, hle⟩ := checkB_true h
    obtain ⟨h1, h2, h3, h4, h5, h6, h7, h8, h9⟩ := numB_true hnum
    obtain ⟨hkp0, hkp1⟩ := kN_pos h
    have hsr := segN_rng c
    obtain ⟨kk, kk0, kk1, hkk⟩ : ∃ kk : Int, 0 ≤ kk ∧ kk < segN c ∧ (kk = if k.tmod (segN c) < 0 then k.tmod (segN c) + segN c else k.tmod (segN c)) := by
      refine ⟨_, ?_, ?_, rfl⟩
      · split
        · have := Int.lt_tmod_of_pos k (show 0 < segN c by omega)
          omega
        · omega
      · split
        · omega
        · exact Int.tmod_lt_of_pos k (by omega)
    have hpl := place_le (c := c) hnum hge kk1
    have hp0 : 0 ≤ kk * c.segment := Int.mul_nonneg kk0 (by omega)
    have hsg := fun w1 => segments_any c w1
    have hseg := fun w1 => segment_yes c kk h kk0 kk1 w1
    have hj := fun w1 => journal_any c w1
    have o1 := fun w1 => of_any c (2 + c.journal + kk * c.segment) hnum (by omega) (by omega) w1
    have o2 := fun w1 => of_any c (2 + c.journal + kk * c.segment + c.segment - 1) hnum (by omega) (by omega) w1
    have o3 := fun w1 => of_any c s hnum hs0 hs1 w1
    have o4 := fun w1 (h : 0 < kk) => of_any c (2 + c.journal + kk * c.segment - 1) hnum (by omega) (by omega) w1
    rw [ofN_in (k := kk) (by omega) kk0 kk1 (by omega) (by omega)] at o1
    rw [ofN_in (k := kk) (by omega) kk0 kk1 (by omega) (by omega)] at o2
    have o4' : ∀ w1, 0 < kk → Calls Try.prog 24 #[c.val, .int .i64 (2 + c.journal + kk * c.segment - 1)] w1 fun e w' => e = .returned (.int .i64 (kk - 1)) ∧ Below w1.heap.size w1 w' := by
      intro w1 hpos
      have := o4 w1 hpos
      have e : (kk - 1) * c.segment = kk * c.segment - c.segment := by rw [Int.sub_mul, Int.one_mul]
      rwa [ofN_in (k := kk - 1) (by omega) (by omega) (by omega) (by omega) (by omega)] at this
    have hin : (decide (2 + c.journal + kk * c.segment ≤ s) && decide (s < 2 + c.journal + kk * c.segment + c.segment)) = (ofN c s == kk) := by
      rw [Bool.eq_iff_iff, Bool.and_eq_true, decide_eq_true_eq, decide_eq_true_eq, beq_iff_eq]
      exact ⟨fun ⟨a, b⟩ => ofN_in (by omega) kk0 kk1 a b, fun hh => ofN_out (by omega) kk0 hh⟩
    have hmr : -9223372036854775808 ≤ k.tmod (segN c) ∧ k.tmod (segN c) ≤ 9223372036854775807 := by
      have q1 := Int.lt_tmod_of_pos k (show 0 < segN c by omega)
      have q2 := Int.tmod_lt_of_pos k (show 0 < segN c by omega)
      omega
    have hm1 : k.tmod (segN c) < 0 → kk = k.tmod (segN c) + segN c := fun hh => by rw [hkk, if_pos hh]
    have hm2 : ¬ k.tmod (segN c) < 0 → kk = k.tmod (segN c) := fun hh => by rw [hkk, if_neg hh]
    have hofr : -1 ≤ ofN c s ∧ ofN c s ≤ 9223372036854775807 := by
      unfold ofN
      split
      · omega
      split
      · omega
      have q0 := Int.ediv_nonneg (show 0 ≤ s - (2 + c.journal) by omega) (show 0 ≤ c.segment by omega)
      have q1 := Int.ediv_le_self c.segment (show 0 ≤ s - (2 + c.journal) by omega)
      omega
    clear hkk o4 hle hf wk ws
    generalize segN c = sg at *
    generalize kN c = kc at *
    generalize ofN c s = os at *
    have hne : (sg == 0) = false := by rw [beq_eq_false_iff_ne]; omega
    have HCK := Lib.hid hck
    have HKC := Lib.hid hkc
    have HSG := Lib.hid hsg
    have HSEG := Lib.hid hseg
    have HJ := Lib.hid hj
    have O1 := Lib.hid o1
    have O2 := Lib.hid o2
    have O3 := Lib.hid o3
    have O4 := Lib.hid o4'
    have HIN := Lib.hid hin
    have HM1 := Lib.hid hm1
    have HM2 := Lib.hid hm2
    clear hck hkc hsg hseg hj o1 o2 o3 o4' hin hm1 hm2 h hnum
    unfold Cfg.val at HCK HKC HSG HSEG HJ O1 O2 O3 O4 ⊢
    go_enter Try.func5, Try.ntmps5
    go_wp2_with fail
    refine (known_any _).mono ?_
    rintro e wP ⟨rfl, hbP⟩
    have hxP : Boxed wP w.heap.size c := Boxed.next hbP HB.out
    have hBP : Below w.heap.size w wP := nextB hbP HB2.out
    obtain ⟨q0, q1, q2, q3, q4, q5, q6, q7, q8⟩ := hxP.cells
    go_wp2_with fail
    refine (HCK.out _).mono ?_
    rintro e w1 ⟨rfl, hb1⟩
    have hx1 : Boxed w1 w.heap.size c := Boxed.next hb1 hxP
    have hB1 : Below w.heap.size w w1 := nextB hb1 hBP
    clear q0 q1 q2 q3 q4 q5 q6 q7 q8
    obtain ⟨q0, q1, q2, q3, q4, q5, q6, q7, q8⟩ := hx1.cells
    go_wp2_with fail
    refine (HSG.out _).mono ?_
    rintro e w2 ⟨rfl, hb2⟩
    have hx2 : Boxed w2 w.heap.size c := Boxed.next hb2 hx1
    have hB2 : Below w.heap.size w w2 := nextB hb2 hB1
    clear q0 q1 q2 q3 q4 q5 q6 q7 q8
    obtain ⟨q0, q1, q2, q3, q4, q5, q6, q7, q8⟩ := hx2.cells
    go_upto_if 28 with (fail)
    go_cut [1] from 24 to 31 (fun s wx => s = .int .i64 kk ∧ w2 = wx)
    case first =>
      go_wp2
      all_goals go_meet
      case rel => exact ⟨by rw [HM1.out (by assumption)], rfl⟩
      case rel => exact ⟨by rw [HM2.out (by omega)], rfl⟩
    case rest =>
      obtain ⟨rfl, rfl⟩ := hcut
      clear HM1 HM2 hmr
      go_wp2_with fail
      refine (HSEG.out _).mono ?_
      rintro e w3 ⟨rfl, hb3⟩
      have hx3 : Boxed w3 w.heap.size c := Boxed.next hb3 hx2
      have hB3 : Below w.heap.size w w3 := nextB hb3 hB2
      clear q0 q1 q2 q3 q4 q5 q6 q7 q8
      obtain ⟨q0, q1, q2, q3, q4, q5, q6, q7, q8⟩ := hx3.cells
      go_wp2_with fail
      refine (HJ.out _).mono ?_
      rintro e w4 ⟨rfl, hb4⟩
      have hx4 : Boxed w4 w.heap.size c := Boxed.next hb4 hx3
      have hB4 : Below w.heap.size w w4 := nextB hb4 hB3
      clear q0 q1 q2 q3 q4 q5 q6 q7 q8
      obtain ⟨q0, q1, q2, q3, q4, q5, q6, q7, q8⟩ := hx4.cells
      by_cases hkz : 0 < kk
      · have t1 : (kk != kk) = false := by simp
        go_wp2_with fail
        refine (O1.out _).mono ?_
        rintro e w5 ⟨rfl, hb5⟩
        have hx5 : Boxed w5 w.heap.size c := Boxed.next hb5 hx4
        have hB5 : Below w.heap.size w w5 := nextB hb5 hB4
        clear q0 q1 q2 q3 q4 q5 q6 q7 q8
        obtain ⟨q0, q1, q2, q3, q4, q5, q6, q7, q8⟩ := hx5.cells
        go_wp2_with fail
        refine (O2.out _).mono ?_
        rintro e w6 ⟨rfl, hb6⟩
        have hx6 : Boxed w6 w.heap.size c := Boxed.next hb6 hx5
        have hB6 : Below w.heap.size w w6 := nextB hb6 hB5
        clear q0 q1 q2 q3 q4 q5 q6 q7 q8
        obtain ⟨q0, q1, q2, q3, q4, q5, q6, q7, q8⟩ := hx6.cells
        go_wp2_with fail
        refine (O4.out _ hkz).mono ?_
        rintro e w7 ⟨rfl, hb7⟩
        have hx7 : Boxed w7 w.heap.size c := Boxed.next hb7 hx6
        have hB7 : Below w.heap.size w w7 := nextB hb7 hB6
        clear q0 q1 q2 q3 q4 q5 q6 q7 q8
        obtain ⟨q0, q1, q2, q3, q4, q5, q6, q7, q8⟩ := hx7.cells
        have hif : ((2 + c.journal + kk * c.segment ≤ s ∧ s < 2 + c.journal + kk * c.segment + c.segment) → (os == kk) = true) ∧ (¬ (2 + c.journal + kk * c.segment ≤ s ∧ s < 2 + c.journal + kk * c.segment + c.segment) → (os == kk) = false) := by
          have := HIN.out
          constructor
          · rintro ⟨a, b⟩; rw [← this, decide_eq_true a, decide_eq_true b]; rfl
          · intro hno; rw [← this, Bool.and_eq_false_iff, decide_eq_false_iff_not, decide_eq_false_iff_not]; omega
        obtain ⟨hi1, hi2⟩ := hif
        by_cases hi : 2 + c.journal + kk * c.segment ≤ s
        · by_cases hi3 : s < 2 + c.journal + kk * c.segment + c.segment
          · have t9 := hi1 ⟨hi, hi3⟩
            clear hi1 hi2
            go_wp2_with fail
            refine (O3.out _).mono ?_
            rintro e w8 ⟨rfl, hb8⟩
            have hx8 : Boxed w8 w.heap.size c := Boxed.next hb8 hx7
            have hB8 : Below w.heap.size w w8 := nextB hb8 hB7
            clear q0 q1 q2 q3 q4 q5 q6 q7 q8
            obtain ⟨q0, q1, q2, q3, q4, q5, q6, q7, q8⟩ := hx8.cells
            go_wp2_with fail
            refine (HKC.out _).mono ?_
            rintro e w9 ⟨rfl, hb9⟩
            have hx9 : Boxed w9 w.heap.size c := Boxed.next hb9 hx8
            have hB9 : Below w.heap.size w w9 := nextB hb9 hB8
            clear q0 q1 q2 q3 q4 q5 q6 q7 q8
            obtain ⟨q0, q1, q2, q3, q4, q5, q6, q7, q8⟩ := hx9.cells
            go_wp2
            go_ret
            first | exact ⟨rfl, hB9⟩ | exact ⟨ret_bool (by simp; omega), hB9⟩
          · have t9 := hi2 (by omega)
            clear hi1 hi2
            go_wp2_with fail
            refine (O3.out _).mono ?_
            rintro e w8 ⟨rfl, hb8⟩
            have hx8 : Boxed w8 w.heap.size c := Boxed.next hb8 hx7
            have hB8 : Below w.heap.size w w8 := nextB hb8 hB7
            clear q0 q1 q2 q3 q4 q5 q6 q7 q8
            obtain ⟨q0, q1, q2, q3, q4, q5, q6, q7, q8⟩ := hx8.cells
            go_wp2_with fail
            refine (HKC.out _).mono ?_
            rintro e w9 ⟨rfl, hb9⟩
            have hx9 : Boxed w9 w.heap.size c := Boxed.next hb9 hx8
            have hB9 : Below w.heap.size w w9 := nextB hb9 hB8
            clear q0 q1 q2 q3 q4 q5 q6 q7 q8
            obtain ⟨q0, q1, q2, q3, q4, q5, q6, q7, q8⟩ := hx9.cells
            go_wp2
            go_ret
            first | exact ⟨rfl, hB9⟩ | exact ⟨ret_bool (by simp; omega), hB9⟩
        · have t9 := hi2 (by omega)
          clear hi1 hi2
          go_wp2_with fail
          refine (O3.out _).mono ?_
          rintro e w8 ⟨rfl, hb8⟩
          have hx8 : Boxed w8 w.heap.size c := Boxed.next hb8 hx7
          have hB8 : Below w.heap.size w w8 := nextB hb8 hB7
          clear q0 q1 q2 q3 q4 q5 q6 q7 q8
          obtain ⟨q0, q1, q2, q3, q4, q5, q6, q7, q8⟩ := hx8.cells
          go_wp2_with fail
          refine (HKC.out _).mono ?_
          rintro e w9 ⟨rfl, hb9⟩
          have hx9 : Boxed w9 w.heap.size c := Boxed.next hb9 hx8
          have hB9 : Below w.heap.size w w9 := nextB hb9 hB8
          clear q0 q1 q2 q3 q4 q5 q6 q7 q8
          obtain ⟨q0, q1, q2, q3, q4, q5, q6, q7, q8⟩ := hx9.cells
          go_wp2
          go_ret
          first | exact ⟨rfl, hB9⟩ | exact ⟨ret_bool (by simp; omega), hB9⟩
      · have hk00 : kk ≤ 0 := by omega
        have t1 : (kk != kk) = false := by simp
        go_wp2_with fail
        refine (O1.out _).mono ?_
        rintro e w5 ⟨rfl, hb5⟩
        have hx5 : Boxed w5 w.heap.size c := Boxed.next hb5 hx4
        have hB5 : Below w.heap.size w w5 := nextB hb5 hB4
        clear q0 q1 q2 q3 q4 q5 q6 q7 q8
        obtain ⟨q0, q1, q2, q3, q4, q5, q6, q7, q8⟩ := hx5.cells
        go_wp2_with fail
        refine (O2.out _).mono ?_
        rintro e w6 ⟨rfl, hb6⟩
        have hx6 : Boxed w6 w.heap.size c := Boxed.next hb6 hx5
        have hB6 : Below w.heap.size w w6 := nextB hb6 hB5
        clear q0 q1 q2 q3 q4 q5 q6 q7 q8
        obtain ⟨q0, q1, q2, q3, q4, q5, q6, q7, q8⟩ := hx6.cells
        have hif : ((2 + c.journal + kk * c.segment ≤ s ∧ s < 2 + c.journal + kk * c.segment + c.segment) → (os == kk) = true) ∧ (¬ (2 + c.journal + kk * c.segment ≤ s ∧ s < 2 + c.journal + kk * c.segment + c.segment) → (os == kk) = false) := by
          have := HIN.out
          constructor
          · rintro ⟨a, b⟩; rw [← this, decide_eq_true a, decide_eq_true b]; rfl
          · intro hno; rw [← this, Bool.and_eq_false_iff, decide_eq_false_iff_not, decide_eq_false_iff_not]; omega
        obtain ⟨hi1, hi2⟩ := hif
        by_cases hi : 2 + c.journal + kk * c.segment ≤ s
        · by_cases hi3 : s < 2 + c.journal + kk * c.segment + c.segment
          · have t9 := hi1 ⟨hi, hi3⟩
            clear hi1 hi2
            go_wp2_with fail
            refine (O3.out _).mono ?_
            rintro e w7 ⟨rfl, hb7⟩
            have hx7 : Boxed w7 w.heap.size c := Boxed.next hb7 hx6
            have hB7 : Below w.heap.size w w7 := nextB hb7 hB6
            clear q0 q1 q2 q3 q4 q5 q6 q7 q8
            obtain ⟨q0, q1, q2, q3, q4, q5, q6, q7, q8⟩ := hx7.cells
            go_wp2_with fail
            refine (HKC.out _).mono ?_
            rintro e w8 ⟨rfl, hb8⟩
            have hx8 : Boxed w8 w.heap.size c := Boxed.next hb8 hx7
            have hB8 : Below w.heap.size w w8 := nextB hb8 hB7
            clear q0 q1 q2 q3 q4 q5 q6 q7 q8
            obtain ⟨q0, q1, q2, q3, q4, q5, q6, q7, q8⟩ := hx8.cells
            go_wp2
            go_ret
            first | exact ⟨rfl, hB8⟩ | exact ⟨ret_bool (by simp; omega), hB8⟩
          · have t9 := hi2 (by omega)
            clear hi1 hi2
            go_wp2_with fail
            refine (O3.out _).mono ?_
            rintro e w7 ⟨rfl, hb7⟩
            have hx7 : Boxed w7 w.heap.size c := Boxed.next hb7 hx6
            have hB7 : Below w.heap.size w w7 := nextB hb7 hB6
            clear q0 q1 q2 q3 q4 q5 q6 q7 q8
            obtain ⟨q0, q1, q2, q3, q4, q5, q6, q7, q8⟩ := hx7.cells
            go_wp2_with fail
            refine (HKC.out _).mono ?_
            rintro e w8 ⟨rfl, hb8⟩
            have hx8 : Boxed w8 w.heap.size c := Boxed.next hb8 hx7
            have hB8 : Below w.heap.size w w8 := nextB hb8 hB7
            clear q0 q1 q2 q3 q4 q5 q6 q7 q8
            obtain ⟨q0, q1, q2, q3, q4, q5, q6, q7, q8⟩ := hx8.cells
            go_wp2
            go_ret
            first | exact ⟨rfl, hB8⟩ | exact ⟨ret_bool (by simp; omega), hB8⟩
        · have t9 := hi2 (by omega)
          clear hi1 hi2
          go_wp2_with fail
          refine (O3.out _).mono ?_
          rintro e w7 ⟨rfl, hb7⟩
          have hx7 : Boxed w7 w.heap.size c := Boxed.next hb7 hx6
          have hB7 : Below w.heap.size w w7 := nextB hb7 hB6
          clear q0 q1 q2 q3 q4 q5 q6 q7 q8
          obtain ⟨q0, q1, q2, q3, q4, q5, q6, q7, q8⟩ := hx7.cells
          go_wp2_with fail
          refine (HKC.out _).mono ?_
          rintro e w8 ⟨rfl, hb8⟩
          have hx8 : Boxed w8 w.heap.size c := Boxed.next hb8 hx7
          have hB8 : Below w.heap.size w w8 := nextB hb8 hB7
          clear q0 q1 q2 q3 q4 q5 q6 q7 q8
          obtain ⟨q0, q1, q2, q3, q4, q5, q6, q7, q8⟩ := hx8.cells
          go_wp2
          go_ret
          first | exact ⟨rfl, hB8⟩ | exact ⟨ret_bool (by simp; omega), hB8⟩
  · rw [if_neg h] at hck
    have hk0 : kN c = 0 := by unfold kN; rw [if_neg h]
    rw [hk0] at hkc
    have HCK := Lib.hid hck
    have HKC := Lib.hid hkc
    clear hck hkc h hk0
    unfold Cfg.val at HCK HKC ⊢
    go_enter Try.func5, Try.ntmps5
    go_wp2_with fail
    refine (known_any _).mono ?_
    rintro e wP ⟨rfl, hbP⟩
    have hxP : Boxed wP w.heap.size c := Boxed.next hbP HB.out
    have hBP : Below w.heap.size w wP := nextB hbP HB2.out
    obtain ⟨q0, q1, q2, q3, q4, q5, q6, q7, q8⟩ := hxP.cells
    go_wp2_with fail
    refine (HCK.out _).mono ?_
    rintro e w1 ⟨rfl, hb1⟩
    have hx1 : Boxed w1 w.heap.size c := Boxed.next hb1 hxP
    have hB1 : Below w.heap.size w w1 := nextB hb1 hBP
    clear q0 q1 q2 q3 q4 q5 q6 q7 q8
    obtain ⟨q0, q1, q2, q3, q4, q5, q6, q7, q8⟩ := hx1.cells
    go_wp2_with fail
    refine (HKC.out _).mono ?_
    rintro e w2 ⟨rfl, hb2⟩
    have hx2 : Boxed w2 w.heap.size c := Boxed.next hb2 hx1
    have hB2 : Below w.heap.size w w2 := nextB hb2 hB1
    clear q0 q1 q2 q3 q4 q5 q6 q7 q8
    obtain ⟨q0, q1, q2, q3, q4, q5, q6, q7, q8⟩ := hx2.cells
    go_wp2
    go_ret
    exact ⟨rfl, hB2⟩

set_option maxRecDepth 100000 in
theorem lifted (os : Os) (started : os.Started) (H : Type) (enc : TypeId × Value → H) :
    ReturnsInHanded {} Try.checked os 5 .any (Rows.geomApartSpec.pre6 enc Try.prog Try.f5 Rows.geomApartRow.domain false) (Rows.geomApartSpec.post enc Try.prog Try.f5 false true false false) := by
  refine returnsInHanded_of_change (C := Try.checked) own started (by kernel_rfl) Try.func5
    (ChangeSpec.witness6 (enc := enc) (C := Try.checked) false ⟨#[], #[.agg #[.int .i64 0, .int .i64 0, .int .i64 0, .int .i64 0, .int .i64 0, .int .i64 0, .int .i64 0, .int .i64 0, .int .i64 0], .int .i64 0, .int .i64 0], []⟩ 8 (by kernel_rfl) (by kernel_rfl) (by kernel_rfl) (by kernel_rfl)) ?_
  intro W base args ds gs before hval0 hW hcnd _
  have hval : ∀ (j : Nat) t v, Try.f5.params[j]? = some t → args[j]? = some v → Value.okWide Try.prog W .any base t v := hval0
  have hW' := hW
  obtain ⟨p, q, hA0, hV, rfl, hfz, hnd⟩ := hW
  have hA : DataW.TrodAll enc Try.prog W 0 (fun _ => true) true Try.f5.params.toList args.toList ds p := hA0
  rw [Try.params5] at hA hval
  obtain ⟨v0, vs0, d0, ds0, p0, q0, hargs, rfl, rfl, h0, r0⟩ := trodAll_cons hA
  obtain ⟨v1, vs1, d1, ds1, p1, q1, rfl, rfl, rfl, h1, r1⟩ := trodAll_cons r0
  obtain ⟨v2, vs2, d2, ds2, p2, q2, rfl, rfl, rfl, h2, r2⟩ := trodAll_cons r1
  obtain ⟨rfl, rfl, rfl⟩ := trodAll_nil r2
  obtain rfl : args = #[v0, v1, v2] := by cases args; simp_all
  obtain ⟨rfl, rfl⟩ := trodVars_none hV
  obtain ⟨c0, rfl, f0⟩ := open_cfg Try.underlying23 (by kernel_rfl) (by kernel_rfl) (by kernel_rfl) Try.underlying3 (by kernel_rfl) (hval 0 23 v0 rfl rfl) h0
  obtain ⟨a1, rfl, rfl, rfl, w1⟩ := open_int Try.underlying3 (hval 1 3 v1 rfl rfl) h1
  obtain ⟨a2, rfl, rfl, rfl, w2⟩ := open_int Try.underlying3 (hval 2 3 v2 rfl rfl) h2
  clear hA0 hval0
  refine (walk c0 f0 a1 w1 a2 w2 W).mono fun e W' ⟨he, hb⟩ => ?_
  subst he
  exact ⟨_, rfl, law_post hW' rfl laid (by kernel_rfl) rfl Try.underlying4 rfl hb⟩

theorem over : Rows.geomApartRow.holds Try.pinned (OpenSpec.ofChange Rows.geomApartSpec) :=
  OpenClaim.holds_of_wide 5 Try.f5 rfl rfl rfl rfl rfl rfl rfl ⟨rfl, rfl, rfl, rfl, rfl⟩ rfl rfl rfl rfl rfl (by kernel_rfl) Try.func5 (by kernel_rfl)
    (of_decide_eq_true (by kernel_rfl)) (by unfold Func.isWrapper; first | (rw [if_pos (by decide +kernel)]; kernel_rfl) | (rw [if_neg (by decide +kernel)]; exact ⟨rfl, rfl⟩))
    (fun os started H enc _ => lifted os started H enc)

theorem proved : Rows.GeomApartSaid :=
  over
end Go.Proofs.Ytlbodandidopfaa.lawGeomApart
