/- Contracts of package crc: times, Join. Conditions: none. -/
import Derived.Test.YtclenafidfpinaaDoorCrs
import Derived.Deep.LoopGhost
namespace Go.Proofs.YtclenafidfpinaaDoor
open Go.ChangeShapes Go.WideShapes Go.ChangeAt Go.RowKit
set_option linter.unusedSimpArgs false
set_option linter.unusedVariables false
namespace Cr
theorem tm_double (k a c : Nat) : tm (k + 1) (a * 2) c = tm k a c := by
  induction k generalizing c with
  | zero => simp [tm]
  | succ k ih =>
    have e : a * 2 / 2 ^ (k + 1) = a / 2 ^ k := by rw [Nat.pow_succ, Nat.mul_comm (2 ^ k) 2, ← Nat.div_div_eq_div_mul, Nat.mul_div_cancel _ (by decide)]
    show (if a * 2 / 2 ^ (k + 1) % 2 = 1 then c else 0) ^^^ tm (k + 1) (a * 2) (st c) = _
    rw [ih, e]; rfl
theorem tm_mod (n k a c : Nat) (h : k ≤ n) : tm k (a % 2 ^ n) c = tm k a c := by
  induction k generalizing c with
  | zero => rfl
  | succ k ih =>
    show (if a % 2 ^ n / 2 ^ k % 2 = 1 then c else 0) ^^^ tm k (a % 2 ^ n) (st c) = _
    rw [ih _ (by omega)]
    have e : a % 2 ^ n / 2 ^ k % 2 = a / 2 ^ k % 2 := by
      have h1 : (a % 2 ^ n).testBit k = a.testBit k := by rw [Nat.testBit_mod_two_pow]; simp; omega
      rw [Nat.testBit_eq_decide_div_mod_eq, Nat.testBit_eq_decide_div_mod_eq, decide_eq_decide] at h1
      omega
    rw [e]; rfl
theorem tm_zero (k c : Nat) : tm k 0 c = 0 := by
  induction k generalizing c with
  | zero => rfl
  | succ k ih => show (if 0 / 2 ^ k % 2 = 1 then c else 0) ^^^ tm k 0 (st c) = 0; rw [ih]; simp
theorem tm_step (a b o : Nat) : o ^^^ tm 32 a b = (if a / 2147483648 % 2 = 1 then o ^^^ b else o) ^^^ tm 32 (a * 2 % 4294967296) (st b) := by
  have h1 := tm_mod 32 32 (a * 2) (st b) (Nat.le_refl _)
  have h2 := tm_double 31 a (st b)
  rw [show (4294967296 : Nat) = 2 ^ 32 from rfl, h1, h2]
  show o ^^^ ((if a / 2 ^ 31 % 2 = 1 then b else 0) ^^^ tm 31 a (st b)) = _
  rw [show (2 : Nat) ^ 31 = 2147483648 from rfl, ← Nat.xor_assoc]
  split <;> simp
theorem st_walk (b : Nat) (hb : b < 4294967296) : (b % 2 = 1 → bits .xor .u32 ((b : Int) / 2) 2197175160 = (st b : Int)) ∧ (b % 2 = 0 → (b : Int) / 2 = (st b : Int)) := by
  constructor
  · intro h
    rw [show ((b : Int) / 2) = ((b / 2 : Nat) : Int) from by simp, show (2197175160 : Int) = ((P : Nat) : Int) from rfl, u32_xor_nat _ _ (by omega) (by decide)]
    unfold st; rw [if_pos h]
  · intro h
    rw [st_even h]; simp
end Cr
theorem and_one32 (b : Nat) (hb : b < 4294967296) : bits .and .u32 (b : Int) 1 = ((b % 2 : Nat) : Int) := by
  rw [show (1 : Int) = ((1 : Nat) : Int) from rfl, u32_and_nat _ _ hb (by decide), nat_mask1]
theorem and_top32 (a : Nat) (ha : a < 4294967296) : bits .and .u32 (a : Int) 2147483648 = ((a / 2147483648 % 2 * 2147483648 : Nat) : Int) := by
  rw [show (2147483648 : Int) = ((2 ^ 31 : Nat) : Int) from rfl, u32_and_nat _ _ ha (by decide), nat_bit]
set_option maxRecDepth 100000 in
set_option maxHeartbeats 4000000 in
theorem times_any (a b : Nat) (ha : a < 4294967296) (hb : b < 4294967296) (w : World) :
    Calls Tryd.prog 21 #[.int .u32 a, .int .u32 b] w fun e w' => e = .returned (.int .u32 (Cr.tm 32 a b)) ∧ w = w' := by
  go_enter Tryd.func21, Tryd.ntmps21
  go_wp2_with fail
  go_loopg [0, 1, 5] 32 (fun g x y o wr => w = wr ∧ ∃ A Bb O : Nat, x = .int .u32 A ∧ y = .int .u32 Bb ∧ o = .int .u32 O ∧ g ≤ 32 ∧ A < 4294967296 ∧ Bb < 4294967296 ∧ O < 4294967296 ∧ Hid (2 ^ (32 - g) ∣ A) ∧ Hid (O ^^^ Cr.tm 32 A Bb = Cr.tm 32 a b))
  case atStart => exact ⟨rfl, a, b, 0, rfl, rfl, rfl, by omega, ha, hb, by omega, Lib.hid (by simp), Lib.hid (by simp)⟩
  case round =>
    obtain ⟨rfl, A, Bb, O, rfl, rfl, rfl, hg, hA, hB, hO, HD, HT⟩ := hrel
    by_cases hz : A = 0
    · subst hz
      have ht := HT.out
      rw [Cr.tm_zero, Nat.xor_zero] at ht
      have HT2 := Lib.hid ht
      clear ht
      go_wp2
      go_ret
      exact ⟨ret_int (by rw [HT2.out]), rfl⟩
    · have hpos : 0 < gk := by
        rcases Nat.eq_zero_or_pos gk with h | h
        · subst h
          have := Nat.le_of_dvd (by omega) HD.out
          simp at this
          omega
        · exact h
      have hs := Cr.tm_step A Bb O
      rw [HT.out] at hs
      have hd2 : 2 ^ (32 - (gk - 1)) ∣ A * 2 % 4294967296 := by
        have h1 : 2 ^ (32 - (gk - 1)) ∣ A * 2 := by
          rw [show 32 - (gk - 1) = 32 - gk + 1 from by omega, Nat.pow_succ]
          exact Nat.mul_dvd_mul_right HD.out 2
        have h2 : (2 : Nat) ^ (32 - (gk - 1)) ∣ 4294967296 := by
          rw [show (4294967296 : Nat) = 2 ^ 32 from rfl]
          exact Nat.pow_dvd_pow 2 (by omega)
        exact (Nat.dvd_mod_iff h2).2 h1
      have hst := Cr.st_lt (r := Bb) hB
      have hO2 : O ^^^ Bb < 4294967296 := Nat.xor_lt_two_pow (n := 32) hO hB
      obtain ⟨w1, w2⟩ := Cr.st_walk Bb hB
      have hx := u32_xor_nat O Bb hO hB
      have t1 := and_one32 Bb hB
      have t2 := and_top32 A hA
      have HD2 := Lib.hid hd2
      have HS := Lib.hid hs
      clear hs hd2
      rcases Nat.mod_two_eq_zero_or_one Bb with hm | hm <;> rcases Nat.mod_two_eq_zero_or_one (A / 2147483648) with hn | hn
      · have v2 := w2 hm
        rw [hm] at t1
        rw [hn] at t2
        have HN := Lib.hid hn
        clear hm hn w1 w2 hx
        go_wp2
        go_roundg (gk - 1)
        case rel => exact ⟨rfl, A * 2 % 4294967296, Cr.st Bb, O, by first | rfl | simp, rfl, rfl, by omega, by omega, hst, hO, HD2, Lib.hid (by have h := HS.out; rw [if_neg (by rw [HN.out]; decide)] at h; exact h.symm)⟩
        case measure => omega
      · have v2 := w2 hm
        rw [hm] at t1
        rw [hn] at t2
        have HN := Lib.hid hn
        clear hm hn w1 w2
        go_wp2
        go_roundg (gk - 1)
        case rel => exact ⟨rfl, A * 2 % 4294967296, Cr.st Bb, O ^^^ Bb, by first | rfl | simp, rfl, rfl, by omega, by omega, hst, hO2, HD2, Lib.hid (by have h := HS.out; rw [if_pos HN.out] at h; exact h.symm)⟩
        case measure => omega
      · have v2 := w1 hm
        rw [hm] at t1
        rw [hn] at t2
        have HN := Lib.hid hn
        clear hm hn w1 w2 hx
        go_wp2
        go_roundg (gk - 1)
        case rel => exact ⟨rfl, A * 2 % 4294967296, Cr.st Bb, O, by first | rfl | simp, rfl, rfl, by omega, by omega, hst, hO, HD2, Lib.hid (by have h := HS.out; rw [if_neg (by rw [HN.out]; decide)] at h; exact h.symm)⟩
        case measure => omega
      · have v2 := w1 hm
        rw [hm] at t1
        rw [hn] at t2
        have HN := Lib.hid hn
        clear hm hn w1 w2
        go_wp2
        go_roundg (gk - 1)
        case rel => exact ⟨rfl, A * 2 % 4294967296, Cr.st Bb, O ^^^ Bb, by first | rfl | simp, rfl, rfl, by omega, by omega, hst, hO2, HD2, Lib.hid (by have h := HS.out; rw [if_pos HN.out] at h; exact h.symm)⟩
        case measure => omega
theorem i64_and1 (n : Nat) (h : n < 9223372036854775808) : bits .and .i64 (n : Int) 1 = ((n % 2 : Nat) : Int) := by
  have := bits_mask .i64 63 (by decide) (fun n h0 h1 => by rw [IntKind.wrap_i64]; omega) 1 (by decide) (n : Int) (by omega) (by omega)
  rw [show ((2 : Int) ^ 1 - 1) = 1 from rfl] at this
  rw [this]; simp
theorem join_no (a b : Nat) (n : Int) (hn : n < 1) (w : World) : Calls Tryd.prog 18 #[.int .u32 a, .int .u32 b, .int .i64 n] w fun e w' => e = .returned (.int .u32 a) ∧ w = w' := by
  go_enter Tryd.func18, Tryd.ntmps18
  go_wp2
  go_ret
  exact ⟨rfl, rfl⟩
set_option maxRecDepth 100000 in
set_option maxHeartbeats 4000000 in
theorem join_yes (a b n : Nat) (h1 : 1 ≤ n) (h2 : n < 9223372036854775808) (ha : a < 4294967296) (hb : b < 4294967296) (w : World) :
    Calls Tryd.prog 18 #[.int .u32 a, .int .u32 b, .int .i64 n] w fun e w' => e = .returned (.int .u32 (Cr.sts (8 * n) a ^^^ b : Nat)) ∧ w = w' := by
  go_enter Tryd.func18, Tryd.ntmps18
  go_wp2_with fail
  go_loop [0, 2, 7] (fun x k y => ∃ A K Bs m : Nat, x = .int .u32 A ∧ k = .int .i64 K ∧ y = .int .u32 Bs ∧ A < 4294967296 ∧ K < 9223372036854775808 ∧ Bs < 4294967296 ∧ Hid (Bs = Cr.sts m Cr.one) ∧ Hid (Cr.sts (m * K) A = Cr.sts (8 * n) a)) (fun _ k _ => (intOf k).toNat)
  case atStart => exact ⟨a, n, 8388608, 8, rfl, rfl, rfl, ha, h2, by omega, Lib.hid (by decide), Lib.hid rfl⟩
  case round =>
    obtain ⟨A, K, Bs, m, rfl, rfl, rfl, hA, hK, hB, HB, HC⟩ := hrel
    rcases Nat.eq_zero_or_pos K with h0 | h0
    · subst h0
      have hc := HC.out
      rw [Nat.mul_zero] at hc
      have HC2 := Lib.hid (show A = Cr.sts (8 * n) a from hc)
      have hx := u32_xor_nat A b hA hb
      clear hc
      go_wp2
      go_ret
      exact ⟨ret_int (by rw [HC2.out]), rfl⟩
    · have ht1 := fun w1 => times_any A Bs hA hB w1
      have ht2 := fun w1 => times_any Bs Bs hB hB w1
      have p1 := Cr.tm_pow m A hA
      have p2 := Cr.tm_pow m Bs hB
      rw [← HB.out] at p1 p2
      have e2 : Cr.sts m Bs = Cr.sts (m + m) Cr.one := by rw [Cr.sts_add, ← HB.out]
      have hA2 : Cr.sts m A < 4294967296 := Cr.sts_lt m (r := A) hA
      have hB2 : Cr.sts m Bs < 4294967296 := Cr.sts_lt m (r := Bs) hB
      rw [p1] at ht1
      rw [p2] at ht2
      have HE2 := Lib.hid e2
      have T1 := Lib.hid ht1
      have T2 := Lib.hid ht2
      have t3 := i64_and1 K hK
      clear ht1 ht2 p1 p2 e2
      rcases Nat.mod_two_eq_zero_or_one K with hm | hm
      · rw [hm] at t3
        have hre : Cr.sts ((m + m) * (K / 2)) A = Cr.sts (8 * n) a := by
          rw [← HC.out]; congr 1
          rw [← Nat.mul_two, Nat.mul_assoc]; congr 1; omega
        have HR := Lib.hid hre
        clear hre hm
        go_wp2_with fail
        refine (T2.out _).mono ?_
        rintro e w1 ⟨rfl, rfl⟩
        go_wp2
        go_round
        case rel => exact ⟨A, K / 2, _, m + m, rfl, by first | rfl | simp, rfl, hA, by omega, hB2, HE2, HR⟩
        case measure => simp [intOf]; omega
      · rw [hm] at t3
        have hre : Cr.sts ((m + m) * (K / 2)) (Cr.sts m A) = Cr.sts (8 * n) a := by
          rw [← HC.out, ← Cr.sts_add]; congr 1
          rw [← Nat.mul_two, Nat.mul_assoc, show m + m * (2 * (K / 2)) = m * (1 + 2 * (K / 2)) from by rw [Nat.mul_add, Nat.mul_one]]; congr 1; omega
        have HR := Lib.hid hre
        clear hre hm
        go_wp2_with fail
        refine (T1.out _).mono ?_
        rintro e w1 ⟨rfl, rfl⟩
        go_wp2_with fail
        refine (T2.out _).mono ?_
        rintro e w1 ⟨rfl, rfl⟩
        go_wp2
        go_round
        case rel => exact ⟨_, K / 2, _, m + m, rfl, by first | rfl | simp, rfl, hA2, by omega, hB2, HE2, HR⟩
        case measure => simp [intOf]; omega
end Go.Proofs.YtclenafidfpinaaDoor
