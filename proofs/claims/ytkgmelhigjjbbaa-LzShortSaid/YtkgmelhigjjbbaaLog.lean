/- Contract of ints.Log. Conditions: none. -/
import Derived.Test.YtkgmelhigjjbbaaPg
import Derived.WalkKit
import Derived.ProofKit
import Derived.OpenShut
import Derived.WalkLawsBesides
import Derived.Lib.Hide
import Derived.Deep.QuietTactic
import Derived.BigQuiet
namespace Go.Proofs.Ytkgmelhigjjbbaa
open Go.ChangeShapes Go.WideShapes Go.ChangeAt Go.RowKit
set_option linter.unusedSimpArgs false
set_option linter.unusedVariables false
theorem log_step {x m v : Nat} (st st' : Nat) (hm : m + Pu.nbits x = Pu.nbits v) (hx : x < 4 ^ st) (hst : 0 < st) (hs' : st = 2 * st' ∨ (st = 1 ∧ st' = 0)) :
    (2 ^ st ≤ x → m + st + Pu.nbits (x / 2 ^ st) = Pu.nbits v ∧ x / 2 ^ st < 4 ^ st' * (if st' = 0 then 2 else 1)) ∧ (x < 2 ^ st → x < 4 ^ st' * (if st' = 0 then 2 else 1)) := by
  have h4 : 2 ^ st = 4 ^ st' * (if st' = 0 then 2 else 1) := by
    rcases hs' with rfl | ⟨rfl, rfl⟩
    · rw [if_neg (by omega), Nat.pow_mul]; simp
    · rfl
  have h5 : 4 ^ st = 2 ^ st * 2 ^ st := by rw [← Nat.mul_pow]
  constructor
  · intro hge
    rw [Pu.nbits_shift st x hge] at hm
    refine ⟨by omega, ?_⟩
    rw [← h4]
    rw [h5] at hx
    exact (Nat.div_lt_iff_lt_mul (Nat.two_pow_pos st)).2 hx
  · intro hlt
    rw [← h4]; exact hlt

theorem log_any (v : Nat) (h : v < 18446744073709551616) (w : World) : Calls Try.prog 29 #[.int .u64 v] w fun e w' => e = .returned (.int .i64 (Pu.nbits v)) ∧ w = w' := by
  have hb := Pu.nbits_le v 64 h
  go_enter Try.func29, Try.ntmps29
  go_wp2
  go_loop [0, 3, 4] (fun u n s => ∃ (x m : Nat) (st : Nat), st ∈ [32, 16, 8, 4, 2, 1, 0] ∧ u = .int .u64 x ∧ n = .int .i64 m ∧ s = .int .i64 st ∧ m + Pu.nbits x = Pu.nbits v ∧ x < 4 ^ st * (if st = 0 then 2 else 1)) (fun _ _ s => (intOf s).toNat)
  case atStart => exact ⟨v, 0, 32, by simp, rfl, rfl, rfl, by simp, by simpa using h⟩
  case round =>
    obtain ⟨x, m, st, hst, rfl, rfl, rfl, hm, hx⟩ := hrel
    simp only [List.mem_cons, List.not_mem_nil, or_false] at hst
    rcases hst with rfl | rfl | rfl | rfl | rfl | rfl | rfl
    case inr.inr.inr.inr.inr.inr =>
      have hx2 := Pu.nbits_small (n := x) (by simpa using hx)
      go_wp2
      go_ret
      exact ⟨ret_int (by omega), rfl⟩
    case inl =>
      obtain ⟨s1, s2⟩ := log_step 32 16 hm (by simpa using hx) (by omega) (by omega)
      simp only [Nat.reducePow, Nat.reduceMul, Nat.mul_one, if_neg, Nat.reduceEqDiff, reduceIte] at s1 s2
      have hm2 : m ≤ 64 := by omega
      have HM := Lib.hid hm
      clear hm hx hb
      by_cases hc : 4294967296 ≤ x
      · obtain ⟨s3, s4⟩ := s1 hc
        have S3 := Lib.hid s3
        clear s1 s2 s3
        have t1 : ((x : Int) / 4294967296 != 0) = true := by rw [bne_iff_ne]; omega
        go_wp2
        go_round
        case rel => exact ⟨x / 4294967296, m + 32, 16, by simp, by simp, by simp, by simp, S3.out, by simpa using s4⟩
        case measure => simp [intOf]
      · have s4 := s2 (by omega)
        clear s1 s2
        have t1 : ((x : Int) / 4294967296 != 0) = false := by rw [bne_eq_false_iff_eq]; omega
        go_wp2
        go_round
        case rel => exact ⟨x, m, 16, by simp, rfl, rfl, by simp, HM.out, by simpa using s4⟩
        case measure => simp [intOf]
    case inr.inl =>
      obtain ⟨s1, s2⟩ := log_step 16 8 hm (by simpa using hx) (by omega) (by omega)
      simp only [Nat.reducePow, Nat.reduceMul, Nat.mul_one, if_neg, Nat.reduceEqDiff, reduceIte] at s1 s2
      have hm2 : m ≤ 64 := by omega
      have HM := Lib.hid hm
      clear hm hx hb
      by_cases hc : 65536 ≤ x
      · obtain ⟨s3, s4⟩ := s1 hc
        have S3 := Lib.hid s3
        clear s1 s2 s3
        have t1 : ((x : Int) / 65536 != 0) = true := by rw [bne_iff_ne]; omega
        go_wp2
        go_round
        case rel => exact ⟨x / 65536, m + 16, 8, by simp, by simp, by simp, by simp, S3.out, by simpa using s4⟩
        case measure => simp [intOf]
      · have s4 := s2 (by omega)
        clear s1 s2
        have t1 : ((x : Int) / 65536 != 0) = false := by rw [bne_eq_false_iff_eq]; omega
        go_wp2
        go_round
        case rel => exact ⟨x, m, 8, by simp, rfl, rfl, by simp, HM.out, by simpa using s4⟩
        case measure => simp [intOf]
    case inr.inr.inl =>
      obtain ⟨s1, s2⟩ := log_step 8 4 hm (by simpa using hx) (by omega) (by omega)
      simp only [Nat.reducePow, Nat.reduceMul, Nat.mul_one, if_neg, Nat.reduceEqDiff, reduceIte] at s1 s2
      have hm2 : m ≤ 64 := by omega
      have HM := Lib.hid hm
      clear hm hx hb
      by_cases hc : 256 ≤ x
      · obtain ⟨s3, s4⟩ := s1 hc
        have S3 := Lib.hid s3
        clear s1 s2 s3
        have t1 : ((x : Int) / 256 != 0) = true := by rw [bne_iff_ne]; omega
        go_wp2
        go_round
        case rel => exact ⟨x / 256, m + 8, 4, by simp, by simp, by simp, by simp, S3.out, by simpa using s4⟩
        case measure => simp [intOf]
      · have s4 := s2 (by omega)
        clear s1 s2
        have t1 : ((x : Int) / 256 != 0) = false := by rw [bne_eq_false_iff_eq]; omega
        go_wp2
        go_round
        case rel => exact ⟨x, m, 4, by simp, rfl, rfl, by simp, HM.out, by simpa using s4⟩
        case measure => simp [intOf]
    case inr.inr.inr.inl =>
      obtain ⟨s1, s2⟩ := log_step 4 2 hm (by simpa using hx) (by omega) (by omega)
      simp only [Nat.reducePow, Nat.reduceMul, Nat.mul_one, if_neg, Nat.reduceEqDiff, reduceIte] at s1 s2
      have hm2 : m ≤ 64 := by omega
      have HM := Lib.hid hm
      clear hm hx hb
      by_cases hc : 16 ≤ x
      · obtain ⟨s3, s4⟩ := s1 hc
        have S3 := Lib.hid s3
        clear s1 s2 s3
        have t1 : ((x : Int) / 16 != 0) = true := by rw [bne_iff_ne]; omega
        go_wp2
        go_round
        case rel => exact ⟨x / 16, m + 4, 2, by simp, by simp, by simp, by simp, S3.out, by simpa using s4⟩
        case measure => simp [intOf]
      · have s4 := s2 (by omega)
        clear s1 s2
        have t1 : ((x : Int) / 16 != 0) = false := by rw [bne_eq_false_iff_eq]; omega
        go_wp2
        go_round
        case rel => exact ⟨x, m, 2, by simp, rfl, rfl, by simp, HM.out, by simpa using s4⟩
        case measure => simp [intOf]
    case inr.inr.inr.inr.inl =>
      obtain ⟨s1, s2⟩ := log_step 2 1 hm (by simpa using hx) (by omega) (by omega)
      simp only [Nat.reducePow, Nat.reduceMul, Nat.mul_one, if_neg, Nat.reduceEqDiff, reduceIte] at s1 s2
      have hm2 : m ≤ 64 := by omega
      have HM := Lib.hid hm
      clear hm hx hb
      by_cases hc : 4 ≤ x
      · obtain ⟨s3, s4⟩ := s1 hc
        have S3 := Lib.hid s3
        clear s1 s2 s3
        have t1 : ((x : Int) / 4 != 0) = true := by rw [bne_iff_ne]; omega
        go_wp2
        go_round
        case rel => exact ⟨x / 4, m + 2, 1, by simp, by simp, by simp, by simp, S3.out, by simpa using s4⟩
        case measure => simp [intOf]
      · have s4 := s2 (by omega)
        clear s1 s2
        have t1 : ((x : Int) / 4 != 0) = false := by rw [bne_eq_false_iff_eq]; omega
        go_wp2
        go_round
        case rel => exact ⟨x, m, 1, by simp, rfl, rfl, by simp, HM.out, by simpa using s4⟩
        case measure => simp [intOf]
    case inr.inr.inr.inr.inr.inl =>
      obtain ⟨s1, s2⟩ := log_step 1 0 hm (by simpa using hx) (by omega) (by omega)
      simp only [Nat.reducePow, Nat.reduceMul, Nat.mul_one, if_neg, Nat.reduceEqDiff, reduceIte] at s1 s2
      have hm2 : m ≤ 64 := by omega
      have HM := Lib.hid hm
      clear hm hx hb
      by_cases hc : 2 ≤ x
      · obtain ⟨s3, s4⟩ := s1 hc
        have S3 := Lib.hid s3
        clear s1 s2 s3
        have t1 : ((x : Int) / 2 != 0) = true := by rw [bne_iff_ne]; omega
        go_wp2
        go_round
        case rel => exact ⟨x / 2, m + 1, 0, by simp, by simp, by simp, by simp, S3.out, by simpa using s4⟩
        case measure => simp [intOf]
      · have s4 := s2 (by omega)
        clear s1 s2
        have t1 : ((x : Int) / 2 != 0) = false := by rw [bne_eq_false_iff_eq]; omega
        go_wp2
        go_round
        case rel => exact ⟨x, m, 0, by simp, rfl, rfl, by simp, HM.out, by simpa using s4⟩
        case measure => simp [intOf]

end Go.Proofs.Ytkgmelhigjjbbaa
